/-
  Of any lanes, whatever is asked, the answer is the document's, and what was handed in stays: the walk. Conditions: what comes in lies in memory.
-/
import Derived.Test.YtemmkkcfjhmomaaAw
import Derived.Test.YtemmkkcfjhmomaaSl
import Derived.Test.YtemmkkcfjhmomaaUn
import Derived.Test.YtemmkkcfjhmomaaFv
namespace Go.Proofs.Ytemmkkcfjhmomaa
open Go.RowKit

set_option maxRecDepth 20000 in
set_option maxHeartbeats 8000000 in
theorem all_law (r g nn o : Int) (a : Option Addr) (c : Nat) (F : List Ln) (ah : Option Addr) (nh ch : Nat) (H0 : Nat → Int) (t : Tk) (o' g' n' : Int) (w : World) (h : LsR w a c F) (hr : Word r) (hw : ∀ l ∈ F, Word l.s) (hc : F.length ≤ 9223372036854775807) (ht : ∀ k, k < F.length → (gl F k).L.length ≤ 9223372036854775807) (hh : HnR w ah nh H0) (hnh : nh ≤ 9223372036854775807) :
    Calls Try.prog 3 #[.agg #[.int .u64 r, .int .i64 g, .int .i64 nn, .int .i64 o, .slice a F.length c], .slice ah nh ch, .agg #[.int .i64 t.id, .int .i64 t.wid, .int .i64 t.sts, .int .i64 t.sin, .int .i64 t.unt], .int .i64 o', .int .i64 g', .int .i64 n'] w fun e w' => e = .returned (.bool true) ∧ Below w.heap.size w w' := by
  obtain ⟨w1, hw1⟩ : ∃ w1, w1 = (w.alloc (.cells #[.int .u64 r, .int .i64 g, .int .i64 nn, .int .i64 o, .slice a F.length c] 25)).alloc (.cells #[.int .i64 t.id, .int .i64 t.wid, .int .i64 t.sts, .int .i64 t.sin, .int .i64 t.unt] 28) := ⟨_, rfl⟩
  obtain ⟨B, N1, N2⟩ := boxes w 25 28 #[.int .u64 r, .int .i64 g, .int .i64 nn, .int .i64 o, .slice a F.length c] #[.int .i64 t.id, .int .i64 t.wid, .int .i64 t.sts, .int .i64 t.sin, .int .i64 t.unt]
  rw [← hw1] at B N1 N2
  have N1 : Blk w1 w.heap.size 25 (faA r g nn o (.slice a F.length c)) := N1
  have HW : Hd (∀ l ∈ F, Word l.s) := ⟨hw⟩
  have HR : Hd (Word r) := ⟨hr⟩
  have HSM : Hd (∀ W, LsR W a c F → Calls Try.prog 10 #[.agg #[.int .u64 r, .int .i64 g, .int .i64 nn, .int .i64 o, .slice a F.length c]] W fun e w' => AnsB F e ∧ Below W.heap.size W w') := ⟨fun W q => smallF_ok r g nn o a c F W q hc ht⟩
  obtain ⟨tt, htt⟩ : ∃ tt, tt = t := ⟨_, rfl⟩
  have HTT : Hd (tt = t) := ⟨htt⟩
  rw [← htt] at hw1 N2 ⊢
  clear htt
  obtain ⟨t0, t1, t2, t3, t4⟩ := tt
  simp only at hw1 N2 ⊢
  obtain ⟨n, hn⟩ : ∃ n, F.length = n := ⟨_, rfl⟩
  have HL : Hd (F.length = n) := ⟨hn⟩
  have H : Hd (Below w.heap.size w w1 ∧ Blk w1 w.heap.size 25 (faA r g nn o (.slice a n c)) ∧ Blk w1 (w.heap.size + 1) 28 #[.int .i64 t0, .int .i64 t1, .int .i64 t2, .int .i64 t3, .int .i64 t4] ∧ LsR w1 a c F ∧ HnR w1 ah nh H0) := ⟨B, by rw [← hn]; exact N1, N2, h.carry B, hh.carry B⟩
  rw [hn] at hw1 HSM ⊢
  clear B N1 N2 h hn ht hw hc hh hr
  go_enter Try.func3, Try.ntmps3
  go_upto_region 1 with fail
  rw [← hw1]
  clear hw1
  obtain ⟨A, hA⟩ : ∃ A, A = w.heap.size := ⟨_, rfl⟩
  have HA : Hd (A = w.heap.size) := ⟨hA⟩
  rw [← hA] at H ⊢
  clear hA
  go_wp2_with fail
  go_at_call 9
  refine (awake_ok w1).mono ?_
  rintro e w2 ⟨rfl, b2⟩
  have H2 : Hd (Below A w w2 ∧ Blk w2 A 25 (faA r g nn o (.slice a n c)) ∧ Blk w2 (A + 1) 28 #[.int .i64 t0, .int .i64 t1, .int .i64 t2, .int .i64 t3, .int .i64 t4] ∧ LsR w2 a c F ∧ HnR w2 ah nh H0) := ⟨H.out.1.trans (b2.mono (by have := H.out.2.1.lt; omega)), H.out.2.1.kept (Kept.of_below b2 (fun _ => False)) id, H.out.2.2.1.kept (Kept.of_below b2 (fun _ => False)) id, H.out.2.2.2.1.carry b2, H.out.2.2.2.2.carry b2⟩
  clear b2 H
  obtain ⟨⟨x0, x1, x2, x3, x4⟩, -⟩ := H2.out.2.1.fair
  have SM := HSM.out w2 H2.out.2.2.2.1
  go_wp2_with fail
  go_at_call 10
  refine SM.mono ?_
  rintro e w3 ⟨⟨b, rfl, hb⟩, b3⟩
  clear SM x0 x1 x2 x3 x4 HSM
  have HB : Hd (IsF F b) := ⟨hb⟩
  clear hb
  have H3 : Hd (Below A w w3 ∧ Blk w3 A 25 (faA r g nn o (.slice a n c)) ∧ Blk w3 (A + 1) 28 #[.int .i64 t0, .int .i64 t1, .int .i64 t2, .int .i64 t3, .int .i64 t4] ∧ LsR w3 a c F ∧ HnR w3 ah nh H0) := ⟨H2.out.1.trans (b3.mono (by have := H2.out.2.1.lt; omega)), H2.out.2.1.kept (Kept.of_below b3 (fun _ => False)) id, H2.out.2.2.1.kept (Kept.of_below b3 (fun _ => False)) id, H2.out.2.2.2.1.carry b3, H2.out.2.2.2.2.carry b3⟩
  clear b3 H2
  cases b with
  | false =>
    go_wp2_with fail
    go_ret
    exact ⟨rfl, by rw [← HA.out]; exact H3.out.1⟩
  | true =>
    have HF : Hd (Few F ∧ ∀ k, (gl F k).L.length ≤ 999) := ⟨⟨by have := (HB.out.yes rfl).1; omega, fun l hl => by
      obtain ⟨k, hk, e⟩ := List.mem_iff_getElem?.1 hl |>.elim fun k e => (⟨k, (List.getElem?_eq_some_iff.1 e).1, e⟩ : ∃ k, ∃ _ : k < F.length, F[k]? = some l)
      have e2 := gl_get hk
      rw [e] at e2
      injection e2 with e2
      have := (HB.out.yes rfl).2 k hk
      rw [← e2] at this
      exact ⟨HW.out l hl, by omega⟩⟩, fun k => by
      rcases Nat.lt_or_ge k F.length with h | h
      · have := (HB.out.yes rfl).2 k h; omega
      · rw [gl_out h]; decide⟩
    by_cases hbig : nh ≤ 100
    · have hbig' : ¬ (100 : Int) < (nh : Int) := by omega
      obtain ⟨xx, hxx⟩ : ∃ xx : Fa, xx = ⟨r, g, nn, o, F⟩ := ⟨_, rfl⟩
      clear hxx xx
      obtain ⟨X14, hX14⟩ : ∃ X, X = nwX o' g' n' := ⟨_, rfl⟩
      obtain ⟨e14, he14⟩ : ∃ e, e = nwE o' g' n' := ⟨_, rfl⟩
      obtain ⟨X18, hX18⟩ : ∃ X, X = shX ⟨r, g, nn, o, F⟩ o' g' n' := ⟨_, rfl⟩
      obtain ⟨kc, hkc⟩ : ∃ k, k = chF F o H0 nh := ⟨_, rfl⟩
      obtain ⟨X22, hX22⟩ : ∃ X, X = jnX ⟨r, g, nn, o, F⟩ kc t := ⟨_, rfl⟩
      obtain ⟨k22, hk22⟩ : ∃ k, k = jnK ⟨r, g, nn, o, F⟩ kc := ⟨_, rfl⟩
      obtain ⟨e22, he22⟩ : ∃ k, k = jnE ⟨r, g, nn, o, F⟩ kc := ⟨_, rfl⟩
      obtain ⟨X28, hX28⟩ : ∃ X, X = tkX ⟨r, g, nn, o, F⟩ := ⟨_, rfl⟩
      obtain ⟨tk28, htk28⟩ : ∃ X, X = tkT ⟨r, g, nn, o, F⟩ := ⟨_, rfl⟩
      obtain ⟨ok28, hok28⟩ : ∃ X, X = tkO ⟨r, g, nn, o, F⟩ := ⟨_, rfl⟩
      obtain ⟨X34, hX34⟩ : ∃ X, X = dpX ⟨r, g, nn, o, F⟩ t0 := ⟨_, rfl⟩
      obtain ⟨tk34, htk34⟩ : ∃ X, X = dpT ⟨r, g, nn, o, F⟩ t0 := ⟨_, rfl⟩
      obtain ⟨ok34, hok34⟩ : ∃ X, X = dpO ⟨r, g, nn, o, F⟩ t0 := ⟨_, rfl⟩
      have HFS : Hd (Few X14.F ∧ Few X18.F ∧ Few X22.F ∧ Few X28.F ∧ Few X34.F) := ⟨by rw [hX14]; exact nwX_few _ _ _, by rw [hX18]; exact shX_few HF.out.1 _ _ _, by rw [hX22]; exact jnX_few HF.out.1 HF.out.2 HR.out _ _, by rw [hX28]; exact tkX_few HF.out.1, by rw [hX34]; exact dpX_few HF.out.1 _⟩
      have C11 : Hd (∀ W a c, LsR W a c F → Calls Try.prog 11 #[.agg #[.int .u64 r, .int .i64 g, .int .i64 nn, .int .i64 o, .slice a n c]] W fun e w' => (∃ v, e = .returned v ∧ FaV w' r g nn o F v) ∧ Below W.heap.size W w') := ⟨fun W a c q => by
        have := rcopy_ok r g nn o a c F W q HF.out.1
        rw [HL.out] at this
        refine this.mono ?_
        rintro e w' ⟨⟨v, rfl, hv⟩, b⟩
        exact ⟨⟨v, rfl, hv.read⟩, b⟩⟩
      have C12 : Hd (∀ W, Calls Try.prog 12 #[.int .i64 o', .int .i64 g', .int .i64 n'] W fun e w' => (∃ v, e = .returned (.tuple #[v, .int .i64 e14]) ∧ FaW w' X14 v) ∧ Below W.heap.size W w') := ⟨fun W => by rw [hX14, he14]; exact new_any o' g' n' W⟩
      have C13 : Hd (∀ W, Calls Try.prog 13 #[.int .i64 o', .int .i64 g', .int .i64 n'] W fun e w' => (∃ v, e = .returned (.tuple #[v, .int .i64 e14]) ∧ FaW w' X14 v) ∧ Below W.heap.size W w') := ⟨fun W => by rw [hX14, he14]; exact rnew_any o' g' n' W⟩
      have C14 : Hd (∀ W a c, LsR W a c F → Calls Try.prog 14 #[.agg #[.int .u64 r, .int .i64 g, .int .i64 nn, .int .i64 o, .slice a n c], .int .i64 o', .int .i64 g', .int .i64 n'] W fun e w' => (∃ v, e = .returned (.tuple #[v, .int .i64 e14]) ∧ FaW w' X18 v) ∧ Below W.heap.size W w') := ⟨fun W a c q => by
        have := shape_any ⟨r, g, nn, o, F⟩ a c W q HF.out.1 o' g' n'
        rw [hX18, he14, ← HL.out]; exact this⟩
      have C15 : Hd (∀ W a c, LsR W a c F → Calls Try.prog 15 #[.agg #[.int .u64 r, .int .i64 g, .int .i64 nn, .int .i64 o, .slice a n c], .int .i64 o', .int .i64 g', .int .i64 n'] W fun e w' => (∃ v, e = .returned (.tuple #[v, .int .i64 e14]) ∧ FaW w' X18 v) ∧ Below W.heap.size W w') := ⟨fun W a c q => by
        have := rshape_any ⟨r, g, nn, o, F⟩ a c W q HF.out.1 o' g' n'
        rw [hX18, he14, ← HL.out]; exact this⟩
      have C17 : Hd (∀ W a c, LsR W a c F → Calls Try.prog 17 #[.agg #[.int .u64 r, .int .i64 g, .int .i64 nn, .int .i64 o, .slice a n c]] W fun e w' => (∃ v, e = .returned v ∧ FaV w' r g nn 0 (trm F 0) v) ∧ Below W.heap.size W w') := ⟨fun W a c q => by
        have := shut_ok r g nn o a c F W q HF.out.1
        rw [HL.out] at this
        refine this.mono ?_
        rintro e w' ⟨⟨v, rfl, hv⟩, b⟩
        exact ⟨⟨v, rfl, hv.read (Kept.refl _ _)⟩, b⟩⟩
      have C18 : Hd (∀ W a c, LsR W a c F → Calls Try.prog 18 #[.agg #[.int .u64 r, .int .i64 g, .int .i64 nn, .int .i64 o, .slice a n c]] W fun e w' => (∃ v, e = .returned v ∧ FaV w' r g nn 0 (trm F 0) v) ∧ Below W.heap.size W w') := ⟨fun W a c q => by
        have := rshut_ok r g nn o a c F W q HF.out.1
        rw [HL.out] at this
        refine this.mono ?_
        rintro e w' ⟨⟨v, rfl, hv⟩, b⟩
        exact ⟨⟨v, rfl, hv.read (Kept.refl _ _)⟩, b⟩⟩
      have C19 : Hd (∀ W a c, LsR W a c F → HnR W ah nh H0 → Calls Try.prog 19 #[.agg #[.int .u64 r, .int .i64 g, .int .i64 nn, .int .i64 o, .slice a n c], .slice ah nh ch, .agg #[.int .i64 t0, .int .i64 t1, .int .i64 t2, .int .i64 t3, .int .i64 t4]] W fun e w' => (∃ v, e = .returned (.tuple #[v, .int .i64 k22, .int .i64 e22]) ∧ FaW w' X22 v) ∧ Below W.heap.size W w') := ⟨fun W a c q q2 => by
        have := join_any ⟨r, g, nn, o, F⟩ a c ah nh ch H0 ⟨t0, t1, t2, t3, t4⟩ W q HF.out.1 q2 (by omega)
        rw [hX22, hk22, he22, hkc, ← HL.out, ← HTT.out]; exact this⟩
      have C20 : Hd (∀ W a c, LsR W a c F → HnR W ah nh H0 → Calls Try.prog 20 #[.agg #[.int .u64 r, .int .i64 g, .int .i64 nn, .int .i64 o, .slice a n c], .slice ah nh ch, .agg #[.int .i64 t0, .int .i64 t1, .int .i64 t2, .int .i64 t3, .int .i64 t4]] W fun e w' => (∃ v, e = .returned (.tuple #[v, .int .i64 k22, .int .i64 e22]) ∧ FaW w' X22 v) ∧ Below W.heap.size W w') := ⟨fun W a c q q2 => by
        have := rjoin_any ⟨r, g, nn, o, F⟩ a c ah nh ch H0 ⟨t0, t1, t2, t3, t4⟩ W q HF.out.1 q2 (by omega)
        rw [hX22, hk22, he22, hkc, ← HL.out, ← HTT.out]; exact this⟩
      have C21 : Hd (∀ W a c, LsR W a c F → HnR W ah nh H0 → Calls Try.prog 21 #[.agg #[.int .u64 r, .int .i64 g, .int .i64 nn, .int .i64 o, .slice a n c], .slice ah nh ch] W fun e w' => e = .returned (.int .i64 kc) ∧ Below W.heap.size W w') := ⟨fun W a c q q2 => by
        have := choose_ok r g nn o a c F ah nh ch H0 W q HF.out.1 q2 (by omega)
        rw [hkc, ← HL.out]; exact this⟩
      have C22 : Hd (∀ W a c, LsR W a c F → HnR W ah nh H0 → Calls Try.prog 22 #[.agg #[.int .u64 r, .int .i64 g, .int .i64 nn, .int .i64 o, .slice a n c], .slice ah nh ch] W fun e w' => e = .returned (.int .i64 kc) ∧ Below W.heap.size W w') := ⟨fun W a c q q2 => by
        have := rchoose_ok r g nn o a c F ah nh ch H0 W q HF.out.1 q2 (by omega)
        rw [hkc, ← HL.out]; exact this⟩
      have C23 : Hd (∀ W a c, LsR W a c F → Calls Try.prog 23 #[.agg #[.int .u64 r, .int .i64 g, .int .i64 nn, .int .i64 o, .slice a n c]] W fun e w' => (∃ v, e = .returned (.tuple #[v, .agg #[.int .i64 tk28.id, .int .i64 tk28.wid, .int .i64 tk28.sts, .int .i64 tk28.sin, .int .i64 tk28.unt], .bool ok28]) ∧ FaW w' X28 v) ∧ Below W.heap.size W w') := ⟨fun W a c q => by
        have := take_any ⟨r, g, nn, o, F⟩ a c W q HF.out.1
        rw [hX28, htk28, hok28, ← HL.out]; exact this⟩
      have C24 : Hd (∀ W a c, LsR W a c F → Calls Try.prog 24 #[.agg #[.int .u64 r, .int .i64 g, .int .i64 nn, .int .i64 o, .slice a n c]] W fun e w' => (∃ v, e = .returned (.tuple #[v, .agg #[.int .i64 tk28.id, .int .i64 tk28.wid, .int .i64 tk28.sts, .int .i64 tk28.sin, .int .i64 tk28.unt], .bool ok28]) ∧ FaW w' X28 v) ∧ Below W.heap.size W w') := ⟨fun W a c q => by
        have := rtake_any ⟨r, g, nn, o, F⟩ a c W q HF.out.1
        rw [hX28, htk28, hok28, ← HL.out]; exact this⟩
      have C25 : Hd (∀ W a c, LsR W a c F → Calls Try.prog 25 #[.agg #[.int .u64 r, .int .i64 g, .int .i64 nn, .int .i64 o, .slice a n c], .int .i64 t0] W fun e w' => (∃ v, e = .returned (.tuple #[v, .agg #[.int .i64 tk34.id, .int .i64 tk34.wid, .int .i64 tk34.sts, .int .i64 tk34.sin, .int .i64 tk34.unt], .bool ok34]) ∧ FaW w' X34 v) ∧ Below W.heap.size W w') := ⟨fun W a c q => by
        have := drop_any ⟨r, g, nn, o, F⟩ a c W q HF.out.1 t0
        rw [hX34, htk34, hok34, ← HL.out]; exact this⟩
      have C26 : Hd (∀ W a c, LsR W a c F → Calls Try.prog 26 #[.agg #[.int .u64 r, .int .i64 g, .int .i64 nn, .int .i64 o, .slice a n c], .int .i64 t0] W fun e w' => (∃ v, e = .returned (.tuple #[v, .agg #[.int .i64 tk34.id, .int .i64 tk34.wid, .int .i64 tk34.sts, .int .i64 tk34.sin, .int .i64 tk34.unt], .bool ok34]) ∧ FaW w' X34 v) ∧ Below W.heap.size W w') := ⟨fun W a c q => by
        have := rdrop_any ⟨r, g, nn, o, F⟩ a c W q HF.out.1 t0
        rw [hX34, htk34, hok34, ← HL.out]; exact this⟩
      obtain ⟨ni, hni⟩ : ∃ k, k = nI (nxt F g) := ⟨_, rfl⟩
      obtain ⟨nb, hnb⟩ : ∃ k, k = nB (nxt F g) := ⟨_, rfl⟩
      have C27 : Hd (∀ W a c, LsR W a c F → Calls Try.prog 27 #[.agg #[.int .u64 r, .int .i64 g, .int .i64 nn, .int .i64 o, .slice a n c]] W fun e w' => e = .returned (.tuple #[.int .i64 ni, .bool nb]) ∧ Below W.heap.size W w') := ⟨fun W a c q => by
        have := next_ok r g nn o a c F W q HF.out.1
        rw [hni, hnb, ← HL.out]; exact this⟩
      have C28 : Hd (∀ W a c, LsR W a c F → Calls Try.prog 28 #[.agg #[.int .u64 r, .int .i64 g, .int .i64 nn, .int .i64 o, .slice a n c]] W fun e w' => e = .returned (.tuple #[.int .i64 ni, .bool nb]) ∧ Below W.heap.size W w') := ⟨fun W a c q => by
        have := rnext_ok r g nn o a c F W q HF.out.1
        rw [hni, hnb, ← HL.out]; exact this⟩
      obtain ⟨wt, hwt⟩ : ∃ k, k = wtT F n := ⟨_, rfl⟩
      obtain ⟨st, hst⟩ : ∃ k, k = stT F n := ⟨_, rfl⟩
      have C29 : Hd (∀ W a c, LsR W a c F → Calls Try.prog 29 #[.agg #[.int .u64 r, .int .i64 g, .int .i64 nn, .int .i64 o, .slice a n c]] W fun e w' => e = .returned (.int .i64 wt) ∧ Below W.heap.size W w') := ⟨fun W a c q => by
        have := waiting_ok r g nn o a c F W q HF.out.1
        rw [hwt, ← HL.out]; exact this⟩
      have C30 : Hd (∀ W a c, LsR W a c F → Calls Try.prog 30 #[.agg #[.int .u64 r, .int .i64 g, .int .i64 nn, .int .i64 o, .slice a n c]] W fun e w' => e = .returned (.int .i64 wt) ∧ Below W.heap.size W w') := ⟨fun W a c q => by
        have := rwaiting_ok r g nn o a c F W q HF.out.1
        rw [hwt, ← HL.out]; exact this⟩
      have C31 : Hd (∀ W a c, LsR W a c F → Calls Try.prog 31 #[.agg #[.int .u64 r, .int .i64 g, .int .i64 nn, .int .i64 o, .slice a n c]] W fun e w' => e = .returned (.int .i64 st) ∧ Below W.heap.size W w') := ⟨fun W a c q => by
        have := seatsF_ok r g nn o a c F W q HF.out.1
        rw [hst, ← HL.out]; exact this⟩
      have C32 : Hd (∀ W a c, LsR W a c F → Calls Try.prog 32 #[.agg #[.int .u64 r, .int .i64 g, .int .i64 nn, .int .i64 o, .slice a n c]] W fun e w' => e = .returned (.int .i64 st) ∧ Below W.heap.size W w') := ⟨fun W a c q => by
        have := rseatsF_ok r g nn o a c F W q HF.out.1
        rw [hst, ← HL.out]; exact this⟩
      have C16 : Hd (∀ (x : Fa) W a c b d, Few x.F → LsR W a c x.F → LsR W b d x.F → Calls Try.prog 16 #[.agg #[.int .u64 x.r, .int .i64 x.g, .int .i64 x.n, .int .i64 x.o, .slice a x.F.length c], .agg #[.int .u64 x.r, .int .i64 x.g, .int .i64 x.n, .int .i64 x.o, .slice b x.F.length d]] W fun e w' => e = .returned (.bool true) ∧ Below W.heap.size W w') := ⟨fun x W a c b d f q1 q2 => same22_ok x.r x.g x.n x.o a b c d x.F W q1 q2 f⟩
      have CF : Hd (∀ W a c b d, LsR W a c F → LsR W b d F → Calls Try.prog 16 #[.agg #[.int .u64 r, .int .i64 g, .int .i64 nn, .int .i64 o, .slice a n c], .agg #[.int .u64 r, .int .i64 g, .int .i64 nn, .int .i64 o, .slice b n d]] W fun e w' => e = .returned (.bool true) ∧ Below W.heap.size W w') := ⟨fun W a c b d q1 q2 => by
        have := same22_ok r g nn o a b c d F W q1 q2 HF.out.1
        rw [HL.out] at this; exact this⟩
      have CT : Hd (∀ W a c b d, LsR W a c (trm F 0) → LsR W b d (trm F 0) → Calls Try.prog 16 #[.agg #[.int .u64 r, .int .i64 g, .int .i64 nn, .int .i64 0, .slice a (trm F 0).length c], .agg #[.int .u64 r, .int .i64 g, .int .i64 nn, .int .i64 0, .slice b (trm F 0).length d]] W fun e w' => e = .returned (.bool true) ∧ Below W.heap.size W w') := ⟨fun W a c b d q1 q2 => same22_ok r g nn 0 a b c d (trm F 0) W q1 q2 (HF.out.1.trm 0)⟩
      clear hX14 he14 hX18 hX22 hk22 he22 hkc hX28 htk28 hok28 hX34 htk34 hok34 hni hnb hwt hst
      obtain ⟨q0, q1, q2, q3, q4⟩ := tk28
      obtain ⟨p0, p1, p2, p3, p4⟩ := tk34
      simp only at C23 C24 C25 C26
      obtain ⟨⟨x0, x1, x2, x3, x4⟩, -⟩ := Blk.fair (H3.out.2.1)
      have CC := C11.out w3 a c (H3.out.2.2.2.1)
      go_wp2_with fail
      go_at_call 11
      refine CC.mono ?_
      rintro e w1 ⟨⟨v, rfl, a13, c13, rfl, r13⟩, b⟩
      clear CC x0 x1 x2 x3 x4
      rw [HL.out]
      obtain ⟨w2, hw2⟩ : ∃ w2, w2 = w1.alloc (.cells #[.int .u64 r, .int .i64 g, .int .i64 nn, .int .i64 o, .slice a13 n c13] 25) := ⟨_, rfl⟩
      have BB : Below w1.heap.size w1 w2 := by rw [hw2]; exact alloc_below _ _
      have NN : Blk w2 w1.heap.size 25 (faA r g nn o (.slice a13 n c13)) := by rw [hw2]; exact Blk.new _ _ _
      have bt := b.trans (BB.mono b.size)
      obtain ⟨y13, hy13⟩ : ∃ y13, y13 = w1.heap.size := ⟨_, rfl⟩
      rw [← hy13] at NN
      have HI3 : Hd (Below A w w2 ∧ Blk w2 A 25 (faA r g nn o (.slice a n c)) ∧ Blk w2 (A + 1) 28 #[.int .i64 t0, .int .i64 t1, .int .i64 t2, .int .i64 t3, .int .i64 t4] ∧ LsR w2 a c F ∧ HnR w2 ah nh H0 ∧ Blk w2 y13 25 (faA r g nn o (.slice a13 n c13)) ∧ LsR w2 a13 c13 F) := ⟨H3.out.1.trans (bt.mono (by have := H3.out.2.1.lt; omega)), H3.out.2.1.kept (Kept.of_below bt (fun _ => False)) id, H3.out.2.2.1.kept (Kept.of_below bt (fun _ => False)) id, H3.out.2.2.2.1.carry bt, H3.out.2.2.2.2.carry bt, NN, r13.carry BB⟩
      clear H3 b BB NN bt r13
      go_upto_region 6 with fail
      rw [← hw2, ← hy13]
      clear hw2 hy13
      have CC := C12.out w2
      go_wp2_with fail
      go_at_call 12
      refine CC.mono ?_
      rintro e w4 ⟨⟨v, rfl, a14, c14, rfl, r14⟩, b⟩
      clear CC 
      obtain ⟨w5, hw5⟩ : ∃ w5, w5 = w4.alloc (.cells #[.int .u64 X14.r, .int .i64 X14.g, .int .i64 X14.n, .int .i64 X14.o, .slice a14 X14.F.length c14] 25) := ⟨_, rfl⟩
      have BB : Below w4.heap.size w4 w5 := by rw [hw5]; exact alloc_below _ _
      have NN : Blk w5 w4.heap.size 25 (faA X14.r X14.g X14.n X14.o (.slice a14 X14.F.length c14)) := by rw [hw5]; exact Blk.new _ _ _
      have bt := b.trans (BB.mono b.size)
      obtain ⟨y14, hy14⟩ : ∃ y14, y14 = w4.heap.size := ⟨_, rfl⟩
      rw [← hy14] at NN
      have HI6 : Hd (Below A w w5 ∧ Blk w5 A 25 (faA r g nn o (.slice a n c)) ∧ Blk w5 (A + 1) 28 #[.int .i64 t0, .int .i64 t1, .int .i64 t2, .int .i64 t3, .int .i64 t4] ∧ LsR w5 a c F ∧ HnR w5 ah nh H0 ∧ Blk w5 y13 25 (faA r g nn o (.slice a13 n c13)) ∧ LsR w5 a13 c13 F ∧ Blk w5 y14 25 (faA X14.r X14.g X14.n X14.o (.slice a14 X14.F.length c14)) ∧ LsR w5 a14 c14 X14.F) := ⟨HI3.out.1.trans (bt.mono (by have := HI3.out.2.1.lt; omega)), HI3.out.2.1.kept (Kept.of_below bt (fun _ => False)) id, HI3.out.2.2.1.kept (Kept.of_below bt (fun _ => False)) id, HI3.out.2.2.2.1.carry bt, HI3.out.2.2.2.2.1.carry bt, HI3.out.2.2.2.2.2.1.kept (Kept.of_below bt (fun _ => False)) id, HI3.out.2.2.2.2.2.2.carry bt, NN, r14.carry BB⟩
      clear HI3 b BB NN bt r14
      go_upto_region 7 with fail
      rw [← hw5, ← hy14]
      clear hw5 hy14
      have CC := C13.out w5
      go_wp2_with fail
      go_at_call 13
      refine CC.mono ?_
      rintro e w7 ⟨⟨v, rfl, a16, c16, rfl, r16⟩, b⟩
      clear CC 
      obtain ⟨w8, hw8⟩ : ∃ w8, w8 = w7.alloc (.cells #[.int .u64 X14.r, .int .i64 X14.g, .int .i64 X14.n, .int .i64 X14.o, .slice a16 X14.F.length c16] 25) := ⟨_, rfl⟩
      have BB : Below w7.heap.size w7 w8 := by rw [hw8]; exact alloc_below _ _
      have NN : Blk w8 w7.heap.size 25 (faA X14.r X14.g X14.n X14.o (.slice a16 X14.F.length c16)) := by rw [hw8]; exact Blk.new _ _ _
      have bt := b.trans (BB.mono b.size)
      obtain ⟨y16, hy16⟩ : ∃ y16, y16 = w7.heap.size := ⟨_, rfl⟩
      rw [← hy16] at NN
      have HI9 : Hd (Below A w w8 ∧ Blk w8 A 25 (faA r g nn o (.slice a n c)) ∧ Blk w8 (A + 1) 28 #[.int .i64 t0, .int .i64 t1, .int .i64 t2, .int .i64 t3, .int .i64 t4] ∧ LsR w8 a c F ∧ HnR w8 ah nh H0 ∧ Blk w8 y13 25 (faA r g nn o (.slice a13 n c13)) ∧ LsR w8 a13 c13 F ∧ Blk w8 y14 25 (faA X14.r X14.g X14.n X14.o (.slice a14 X14.F.length c14)) ∧ LsR w8 a14 c14 X14.F ∧ Blk w8 y16 25 (faA X14.r X14.g X14.n X14.o (.slice a16 X14.F.length c16)) ∧ LsR w8 a16 c16 X14.F) := ⟨HI6.out.1.trans (bt.mono (by have := HI6.out.2.1.lt; omega)), HI6.out.2.1.kept (Kept.of_below bt (fun _ => False)) id, HI6.out.2.2.1.kept (Kept.of_below bt (fun _ => False)) id, HI6.out.2.2.2.1.carry bt, HI6.out.2.2.2.2.1.carry bt, HI6.out.2.2.2.2.2.1.kept (Kept.of_below bt (fun _ => False)) id, HI6.out.2.2.2.2.2.2.1.carry bt, HI6.out.2.2.2.2.2.2.2.1.kept (Kept.of_below bt (fun _ => False)) id, HI6.out.2.2.2.2.2.2.2.2.carry bt, NN, r16.carry BB⟩
      clear HI6 b BB NN bt r16
      go_upto_region 8 with fail
      rw [← hw8, ← hy16]
      clear hw8 hy16
      obtain ⟨⟨x0, x1, x2, x3, x4⟩, -⟩ := Blk.fair (HI9.out.2.2.2.2.2.1)
      have CC := C14.out w8 a13 c13 (HI9.out.2.2.2.2.2.2.1)
      go_wp2_with fail
      go_at_call 14
      refine CC.mono ?_
      rintro e w10 ⟨⟨v, rfl, a18, c18, rfl, r18⟩, b⟩
      clear CC x0 x1 x2 x3 x4
      obtain ⟨w11, hw11⟩ : ∃ w11, w11 = w10.alloc (.cells #[.int .u64 X18.r, .int .i64 X18.g, .int .i64 X18.n, .int .i64 X18.o, .slice a18 X18.F.length c18] 25) := ⟨_, rfl⟩
      have BB : Below w10.heap.size w10 w11 := by rw [hw11]; exact alloc_below _ _
      have NN : Blk w11 w10.heap.size 25 (faA X18.r X18.g X18.n X18.o (.slice a18 X18.F.length c18)) := by rw [hw11]; exact Blk.new _ _ _
      have bt := b.trans (BB.mono b.size)
      obtain ⟨y18, hy18⟩ : ∃ y18, y18 = w10.heap.size := ⟨_, rfl⟩
      rw [← hy18] at NN
      have HI12 : Hd (Below A w w11 ∧ Blk w11 A 25 (faA r g nn o (.slice a n c)) ∧ Blk w11 (A + 1) 28 #[.int .i64 t0, .int .i64 t1, .int .i64 t2, .int .i64 t3, .int .i64 t4] ∧ LsR w11 a c F ∧ HnR w11 ah nh H0 ∧ Blk w11 y13 25 (faA r g nn o (.slice a13 n c13)) ∧ LsR w11 a13 c13 F ∧ Blk w11 y14 25 (faA X14.r X14.g X14.n X14.o (.slice a14 X14.F.length c14)) ∧ LsR w11 a14 c14 X14.F ∧ Blk w11 y16 25 (faA X14.r X14.g X14.n X14.o (.slice a16 X14.F.length c16)) ∧ LsR w11 a16 c16 X14.F ∧ Blk w11 y18 25 (faA X18.r X18.g X18.n X18.o (.slice a18 X18.F.length c18)) ∧ LsR w11 a18 c18 X18.F) := ⟨HI9.out.1.trans (bt.mono (by have := HI9.out.2.1.lt; omega)), HI9.out.2.1.kept (Kept.of_below bt (fun _ => False)) id, HI9.out.2.2.1.kept (Kept.of_below bt (fun _ => False)) id, HI9.out.2.2.2.1.carry bt, HI9.out.2.2.2.2.1.carry bt, HI9.out.2.2.2.2.2.1.kept (Kept.of_below bt (fun _ => False)) id, HI9.out.2.2.2.2.2.2.1.carry bt, HI9.out.2.2.2.2.2.2.2.1.kept (Kept.of_below bt (fun _ => False)) id, HI9.out.2.2.2.2.2.2.2.2.1.carry bt, HI9.out.2.2.2.2.2.2.2.2.2.1.kept (Kept.of_below bt (fun _ => False)) id, HI9.out.2.2.2.2.2.2.2.2.2.2.carry bt, NN, r18.carry BB⟩
      clear HI9 b BB NN bt r18
      go_upto_region 9 with fail
      rw [← hw11, ← hy18]
      clear hw11 hy18
      obtain ⟨⟨x0, x1, x2, x3, x4⟩, -⟩ := Blk.fair (HI12.out.2.1)
      have CC := C15.out w11 a c (HI12.out.2.2.2.1)
      go_wp2_with fail
      go_at_call 15
      refine CC.mono ?_
      rintro e w13 ⟨⟨v, rfl, a20, c20, rfl, r20⟩, b⟩
      clear CC x0 x1 x2 x3 x4
      obtain ⟨w14, hw14⟩ : ∃ w14, w14 = w13.alloc (.cells #[.int .u64 X18.r, .int .i64 X18.g, .int .i64 X18.n, .int .i64 X18.o, .slice a20 X18.F.length c20] 25) := ⟨_, rfl⟩
      have BB : Below w13.heap.size w13 w14 := by rw [hw14]; exact alloc_below _ _
      have NN : Blk w14 w13.heap.size 25 (faA X18.r X18.g X18.n X18.o (.slice a20 X18.F.length c20)) := by rw [hw14]; exact Blk.new _ _ _
      have bt := b.trans (BB.mono b.size)
      obtain ⟨y20, hy20⟩ : ∃ y20, y20 = w13.heap.size := ⟨_, rfl⟩
      rw [← hy20] at NN
      have HI15 : Hd (Below A w w14 ∧ Blk w14 A 25 (faA r g nn o (.slice a n c)) ∧ Blk w14 (A + 1) 28 #[.int .i64 t0, .int .i64 t1, .int .i64 t2, .int .i64 t3, .int .i64 t4] ∧ LsR w14 a c F ∧ HnR w14 ah nh H0 ∧ Blk w14 y13 25 (faA r g nn o (.slice a13 n c13)) ∧ LsR w14 a13 c13 F ∧ Blk w14 y14 25 (faA X14.r X14.g X14.n X14.o (.slice a14 X14.F.length c14)) ∧ LsR w14 a14 c14 X14.F ∧ Blk w14 y16 25 (faA X14.r X14.g X14.n X14.o (.slice a16 X14.F.length c16)) ∧ LsR w14 a16 c16 X14.F ∧ Blk w14 y18 25 (faA X18.r X18.g X18.n X18.o (.slice a18 X18.F.length c18)) ∧ LsR w14 a18 c18 X18.F ∧ Blk w14 y20 25 (faA X18.r X18.g X18.n X18.o (.slice a20 X18.F.length c20)) ∧ LsR w14 a20 c20 X18.F) := ⟨HI12.out.1.trans (bt.mono (by have := HI12.out.2.1.lt; omega)), HI12.out.2.1.kept (Kept.of_below bt (fun _ => False)) id, HI12.out.2.2.1.kept (Kept.of_below bt (fun _ => False)) id, HI12.out.2.2.2.1.carry bt, HI12.out.2.2.2.2.1.carry bt, HI12.out.2.2.2.2.2.1.kept (Kept.of_below bt (fun _ => False)) id, HI12.out.2.2.2.2.2.2.1.carry bt, HI12.out.2.2.2.2.2.2.2.1.kept (Kept.of_below bt (fun _ => False)) id, HI12.out.2.2.2.2.2.2.2.2.1.carry bt, HI12.out.2.2.2.2.2.2.2.2.2.1.kept (Kept.of_below bt (fun _ => False)) id, HI12.out.2.2.2.2.2.2.2.2.2.2.1.carry bt, HI12.out.2.2.2.2.2.2.2.2.2.2.2.1.kept (Kept.of_below bt (fun _ => False)) id, HI12.out.2.2.2.2.2.2.2.2.2.2.2.2.carry bt, NN, r20.carry BB⟩
      clear HI12 b BB NN bt r20
      go_upto_region 10 with fail
      rw [← hw14, ← hy20]
      clear hw14 hy20
      refine AnyG.start (T := fun Y => Below w14.drew.heap.size w14.drew Y) (U := fun _ => True) (j0 := 100) (by kernel_rfl) ?_
      obtain ⟨w16, hw16⟩ : ∃ w16, w16 = w14.drew := ⟨_, rfl⟩
      have BD : Below w14.heap.size w14 w16 := by rw [hw16]; exact (Below.refl _ _).drew
      rw [← hw16]
      have HG17 : Hd (∀ Y, Below w16.heap.size w16 Y → Below A w Y ∧ Blk Y A 25 (faA r g nn o (.slice a n c)) ∧ Blk Y (A + 1) 28 #[.int .i64 t0, .int .i64 t1, .int .i64 t2, .int .i64 t3, .int .i64 t4] ∧ LsR Y a c F ∧ HnR Y ah nh H0 ∧ Blk Y y13 25 (faA r g nn o (.slice a13 n c13)) ∧ LsR Y a13 c13 F ∧ Blk Y y14 25 (faA X14.r X14.g X14.n X14.o (.slice a14 X14.F.length c14)) ∧ LsR Y a14 c14 X14.F ∧ Blk Y y16 25 (faA X14.r X14.g X14.n X14.o (.slice a16 X14.F.length c16)) ∧ LsR Y a16 c16 X14.F ∧ Blk Y y18 25 (faA X18.r X18.g X18.n X18.o (.slice a18 X18.F.length c18)) ∧ LsR Y a18 c18 X18.F ∧ Blk Y y20 25 (faA X18.r X18.g X18.n X18.o (.slice a20 X18.F.length c20)) ∧ LsR Y a20 c20 X18.F) := ⟨fun Y q => by
        have qq := BD.trans (q.mono BD.size)
        exact ⟨HI15.out.1.trans (qq.mono (by have := HI15.out.2.1.lt; omega)), HI15.out.2.1.kept (Kept.of_below qq (fun _ => False)) id, HI15.out.2.2.1.kept (Kept.of_below qq (fun _ => False)) id, HI15.out.2.2.2.1.carry qq, HI15.out.2.2.2.2.1.carry qq, HI15.out.2.2.2.2.2.1.kept (Kept.of_below qq (fun _ => False)) id, HI15.out.2.2.2.2.2.2.1.carry qq, HI15.out.2.2.2.2.2.2.2.1.kept (Kept.of_below qq (fun _ => False)) id, HI15.out.2.2.2.2.2.2.2.2.1.carry qq, HI15.out.2.2.2.2.2.2.2.2.2.1.kept (Kept.of_below qq (fun _ => False)) id, HI15.out.2.2.2.2.2.2.2.2.2.2.1.carry qq, HI15.out.2.2.2.2.2.2.2.2.2.2.2.1.kept (Kept.of_below qq (fun _ => False)) id, HI15.out.2.2.2.2.2.2.2.2.2.2.2.2.1.carry qq, HI15.out.2.2.2.2.2.2.2.2.2.2.2.2.2.1.kept (Kept.of_below qq (fun _ => False)) id, HI15.out.2.2.2.2.2.2.2.2.2.2.2.2.2.2.carry qq⟩⟩
      clear BD hw16 HI15
      have R : Below w16.heap.size w16 w16 := Below.refl _ _
      refine .tq 0 86 R ?_; simp only [oqA, oqB, oqC]
      refine .tq 1 87 R ?_; simp only [oqA, oqB, oqC]
      refine .tq (v := .bool false) 2 88 R ?_ (hy := fun w hSw => by go_simp); simp only [oqA, oqB, oqC]
      refine .tq 3 89 R ?_; simp only [oqA, oqB, oqC]
      refine .tq 4 90 R ?_ (hy := fun w hSw => by have s := ((HG17.out w hSw).2.2.2.2.2.2.2.1).fair.1; go_simp; rfl); simp only [oqA, oqB, oqC]
      refine .tq 5 91 R ?_ (hy := fun w hSw => by have s := ((HG17.out w hSw).2.2.2.2.2.2.2.2.2.1).fair.1; go_simp; rfl); simp only [oqA, oqB, oqC]
      have CC := C16.out X14 w16 a14 c14 a16 c16 HFS.out.1 ((HG17.out w16 R).2.2.2.2.2.2.2.2.1) ((HG17.out w16 R).2.2.2.2.2.2.2.2.2.2.1)
      refine AnyG.ready (rs := [6]) (by kernel_rfl) (by simp) ?_
      refine AllG.cons rfl (fun K hK => ?_) AllG.nil
      go_simp
      refine CC.mono ?_
      rintro e w18 ⟨rfl, b⟩
      have R19 : Below w16.heap.size w16 w18 := R.trans (b.mono R.size)
      refine hK.out _ _ ⟨R19, fun _ => trivial⟩ ?_
      clear hK K CC b
      refine .tq 7 93 R19 ?_; simp only [oqA, oqB, oqC]
      refine .tq 8 94 R19 ?_; simp only [oqA, oqB, oqC]
      refine .tq 9 95 R19 ?_; simp only [oqA, oqB, oqC]
      refine .tq 10 96 R19 ?_; simp only [oqA, oqB, oqC]
      refine .tq 11 97 R19 ?_; simp only [oqA, oqB, oqC]
      refine .tq (v := .bool false) 12 98 R19 ?_ (hy := fun w hSw => by go_simp); simp only [oqA, oqB, oqC]
      refine .tq 13 99 R19 ?_; simp only [oqA, oqB, oqC]
      refine .tq 14 100 R19 ?_; simp only [oqA, oqB, oqC]
      refine .tq 15 101 R19 ?_ (hy := fun w hSw => by have s := ((HG17.out w hSw).2.2.2.2.2.2.2.2.2.2.2.1).fair.1; go_simp; rfl); simp only [oqA, oqB, oqC]
      refine .tq 16 102 R19 ?_ (hy := fun w hSw => by have s := ((HG17.out w hSw).2.2.2.2.2.2.2.2.2.2.2.2.2.1).fair.1; go_simp; rfl); simp only [oqA, oqB, oqC]
      have CC := C16.out X18 w18 a18 c18 a20 c20 HFS.out.2.1 ((HG17.out w18 R19).2.2.2.2.2.2.2.2.2.2.2.2.1) ((HG17.out w18 R19).2.2.2.2.2.2.2.2.2.2.2.2.2.2)
      refine AnyG.ready (rs := [17]) (by kernel_rfl) (by simp) ?_
      refine AllG.cons rfl (fun K hK => ?_) AllG.nil
      go_simp
      refine CC.mono ?_
      rintro e w20 ⟨rfl, b⟩
      have R21 : Below w16.heap.size w16 w20 := R19.trans (b.mono R19.size)
      refine hK.out _ _ ⟨R21, fun _ => trivial⟩ ?_
      clear hK K CC b
      refine .tq 18 104 R21 ?_; simp only [oqA, oqB, oqC]
      refine .tq 19 105 R21 ?_; simp only [oqA, oqB, oqC]
      refine .tq 20 106 R21 ?_; simp only [oqA, oqB, oqC]
      refine .tq 21 107 R21 ?_ (hy := fun w hSw => by have s := ((HG17.out w hSw).2.2.2.2.2.1).fair.1; go_simp; rfl); simp only [oqA, oqB, oqC]
      refine .tq 23 109 R21 ?_ (hy := fun w hSw => by have s := ((HG17.out w hSw).2.1).fair.1; go_simp; rfl); simp only [oqA, oqB, oqC]
      have CC := C17.out w20 a13 c13 ((HG17.out w20 R21).2.2.2.2.2.2.1)
      refine AnyG.ready (rs := [22]) (by kernel_rfl) (by simp) ?_
      refine AllG.cons rfl (fun K hK => ?_) AllG.nil
      go_simp
      refine CC.mono ?_
      rintro e w22 ⟨⟨v, rfl, as1, cs1, rfl, rs1⟩, b⟩
      have R23 : Below w16.heap.size w16 w22 := R21.trans (b.mono R21.size)
      have RS1 : Hd (LsR w22 as1 cs1 (trm F 0)) := ⟨rs1⟩
      clear rs1
      refine hK.out _ _ ⟨R23, fun _ => trivial⟩ ?_
      clear hK K CC b
      have CC := C18.out w22 a c ((HG17.out w22 R23).2.2.2.1)
      refine AnyG.ready (rs := [24]) (by kernel_rfl) (by simp) ?_
      refine AllG.cons rfl (fun K hK => ?_) AllG.nil
      go_simp
      refine CC.mono ?_
      rintro e w24 ⟨⟨v, rfl, as2, cs2, rfl, rs2⟩, b⟩
      have R25 : Below w16.heap.size w16 w24 := R23.trans (b.mono R23.size)
      have RS2 : Hd (LsR w24 as1 cs1 (trm F 0) ∧ LsR w24 as2 cs2 (trm F 0)) := ⟨RS1.out.carry b, rs2⟩
      clear rs2 RS1
      refine hK.out _ _ ⟨R25, fun _ => trivial⟩ ?_
      clear hK K CC b
      have CC := CT.out w24 as1 cs1 as2 cs2 RS2.out.1 RS2.out.2
      refine AnyG.ready (rs := [25]) (by kernel_rfl) (by simp) ?_
      refine AllG.cons rfl (fun K hK => ?_) AllG.nil
      go_simp
      refine CC.mono ?_
      rintro e w26 ⟨rfl, b⟩
      have R27 : Below w16.heap.size w16 w26 := R25.trans (b.mono R25.size)
      refine hK.out _ _ ⟨R27, fun _ => trivial⟩ ?_
      clear hK K CC b
      refine .tq 26 112 R27 ?_; simp only [oqA, oqB, oqC]
      refine .tq 27 113 R27 ?_; simp only [oqA, oqB, oqC]
      refine AnyG.done (by kernel_rfl) ?_ _
      have HI28 : Hd (Below A w w26 ∧ Blk w26 A 25 (faA r g nn o (.slice a n c)) ∧ Blk w26 (A + 1) 28 #[.int .i64 t0, .int .i64 t1, .int .i64 t2, .int .i64 t3, .int .i64 t4] ∧ LsR w26 a c F ∧ HnR w26 ah nh H0 ∧ Blk w26 y13 25 (faA r g nn o (.slice a13 n c13)) ∧ LsR w26 a13 c13 F ∧ Blk w26 y14 25 (faA X14.r X14.g X14.n X14.o (.slice a14 X14.F.length c14)) ∧ LsR w26 a14 c14 X14.F ∧ Blk w26 y16 25 (faA X14.r X14.g X14.n X14.o (.slice a16 X14.F.length c16)) ∧ LsR w26 a16 c16 X14.F ∧ Blk w26 y18 25 (faA X18.r X18.g X18.n X18.o (.slice a18 X18.F.length c18)) ∧ LsR w26 a18 c18 X18.F ∧ Blk w26 y20 25 (faA X18.r X18.g X18.n X18.o (.slice a20 X18.F.length c20)) ∧ LsR w26 a20 c20 X18.F) := ⟨HG17.out w26 R27⟩
      clear HG17 R R19 R21 R23 R25 R27
      go_upto_region 12 with fail
      clear RS2
      obtain ⟨⟨x0, x1, x2, x3, x4⟩, -⟩ := Blk.fair (HI28.out.2.2.2.2.2.1)
      obtain ⟨⟨d0, d1, d2, d3, d4⟩, -⟩ := Blk.five (t := ⟨t0, t1, t2, t3, t4⟩) (HI28.out.2.2.1)
      have CC := C19.out w26 a13 c13 (HI28.out.2.2.2.2.2.2.1) (HI28.out.2.2.2.2.1)
      go_wp2_with fail
      go_at_call 19
      refine CC.mono ?_
      rintro e w29 ⟨⟨v, rfl, a22, c22, rfl, r22⟩, b⟩
      clear CC x0 x1 x2 x3 x4 d0 d1 d2 d3 d4
      obtain ⟨w30, hw30⟩ : ∃ w30, w30 = w29.alloc (.cells #[.int .u64 X22.r, .int .i64 X22.g, .int .i64 X22.n, .int .i64 X22.o, .slice a22 X22.F.length c22] 25) := ⟨_, rfl⟩
      have BB : Below w29.heap.size w29 w30 := by rw [hw30]; exact alloc_below _ _
      have NN : Blk w30 w29.heap.size 25 (faA X22.r X22.g X22.n X22.o (.slice a22 X22.F.length c22)) := by rw [hw30]; exact Blk.new _ _ _
      have bt := b.trans (BB.mono b.size)
      obtain ⟨y22, hy22⟩ : ∃ y22, y22 = w29.heap.size := ⟨_, rfl⟩
      rw [← hy22] at NN
      have HI31 : Hd (Below A w w30 ∧ Blk w30 A 25 (faA r g nn o (.slice a n c)) ∧ Blk w30 (A + 1) 28 #[.int .i64 t0, .int .i64 t1, .int .i64 t2, .int .i64 t3, .int .i64 t4] ∧ LsR w30 a c F ∧ HnR w30 ah nh H0 ∧ Blk w30 y13 25 (faA r g nn o (.slice a13 n c13)) ∧ LsR w30 a13 c13 F ∧ Blk w30 y14 25 (faA X14.r X14.g X14.n X14.o (.slice a14 X14.F.length c14)) ∧ LsR w30 a14 c14 X14.F ∧ Blk w30 y16 25 (faA X14.r X14.g X14.n X14.o (.slice a16 X14.F.length c16)) ∧ LsR w30 a16 c16 X14.F ∧ Blk w30 y18 25 (faA X18.r X18.g X18.n X18.o (.slice a18 X18.F.length c18)) ∧ LsR w30 a18 c18 X18.F ∧ Blk w30 y20 25 (faA X18.r X18.g X18.n X18.o (.slice a20 X18.F.length c20)) ∧ LsR w30 a20 c20 X18.F ∧ Blk w30 y22 25 (faA X22.r X22.g X22.n X22.o (.slice a22 X22.F.length c22)) ∧ LsR w30 a22 c22 X22.F) := ⟨HI28.out.1.trans (bt.mono (by have := HI28.out.2.1.lt; omega)), HI28.out.2.1.kept (Kept.of_below bt (fun _ => False)) id, HI28.out.2.2.1.kept (Kept.of_below bt (fun _ => False)) id, HI28.out.2.2.2.1.carry bt, HI28.out.2.2.2.2.1.carry bt, HI28.out.2.2.2.2.2.1.kept (Kept.of_below bt (fun _ => False)) id, HI28.out.2.2.2.2.2.2.1.carry bt, HI28.out.2.2.2.2.2.2.2.1.kept (Kept.of_below bt (fun _ => False)) id, HI28.out.2.2.2.2.2.2.2.2.1.carry bt, HI28.out.2.2.2.2.2.2.2.2.2.1.kept (Kept.of_below bt (fun _ => False)) id, HI28.out.2.2.2.2.2.2.2.2.2.2.1.carry bt, HI28.out.2.2.2.2.2.2.2.2.2.2.2.1.kept (Kept.of_below bt (fun _ => False)) id, HI28.out.2.2.2.2.2.2.2.2.2.2.2.2.1.carry bt, HI28.out.2.2.2.2.2.2.2.2.2.2.2.2.2.1.kept (Kept.of_below bt (fun _ => False)) id, HI28.out.2.2.2.2.2.2.2.2.2.2.2.2.2.2.carry bt, NN, r22.carry BB⟩
      clear HI28 b BB NN bt r22
      go_upto_region 13 with fail
      rw [← hw30, ← hy22]
      clear hw30 hy22
      obtain ⟨⟨x0, x1, x2, x3, x4⟩, -⟩ := Blk.fair (HI31.out.2.1)
      obtain ⟨⟨d0, d1, d2, d3, d4⟩, -⟩ := Blk.five (t := ⟨t0, t1, t2, t3, t4⟩) (HI31.out.2.2.1)
      have CC := C20.out w30 a c (HI31.out.2.2.2.1) (HI31.out.2.2.2.2.1)
      go_wp2_with fail
      go_at_call 20
      refine CC.mono ?_
      rintro e w32 ⟨⟨v, rfl, a25, c25, rfl, r25⟩, b⟩
      clear CC x0 x1 x2 x3 x4 d0 d1 d2 d3 d4
      obtain ⟨w33, hw33⟩ : ∃ w33, w33 = w32.alloc (.cells #[.int .u64 X22.r, .int .i64 X22.g, .int .i64 X22.n, .int .i64 X22.o, .slice a25 X22.F.length c25] 25) := ⟨_, rfl⟩
      have BB : Below w32.heap.size w32 w33 := by rw [hw33]; exact alloc_below _ _
      have NN : Blk w33 w32.heap.size 25 (faA X22.r X22.g X22.n X22.o (.slice a25 X22.F.length c25)) := by rw [hw33]; exact Blk.new _ _ _
      have bt := b.trans (BB.mono b.size)
      obtain ⟨y25, hy25⟩ : ∃ y25, y25 = w32.heap.size := ⟨_, rfl⟩
      rw [← hy25] at NN
      have HI34 : Hd (Below A w w33 ∧ Blk w33 A 25 (faA r g nn o (.slice a n c)) ∧ Blk w33 (A + 1) 28 #[.int .i64 t0, .int .i64 t1, .int .i64 t2, .int .i64 t3, .int .i64 t4] ∧ LsR w33 a c F ∧ HnR w33 ah nh H0 ∧ Blk w33 y13 25 (faA r g nn o (.slice a13 n c13)) ∧ LsR w33 a13 c13 F ∧ Blk w33 y14 25 (faA X14.r X14.g X14.n X14.o (.slice a14 X14.F.length c14)) ∧ LsR w33 a14 c14 X14.F ∧ Blk w33 y16 25 (faA X14.r X14.g X14.n X14.o (.slice a16 X14.F.length c16)) ∧ LsR w33 a16 c16 X14.F ∧ Blk w33 y18 25 (faA X18.r X18.g X18.n X18.o (.slice a18 X18.F.length c18)) ∧ LsR w33 a18 c18 X18.F ∧ Blk w33 y20 25 (faA X18.r X18.g X18.n X18.o (.slice a20 X18.F.length c20)) ∧ LsR w33 a20 c20 X18.F ∧ Blk w33 y22 25 (faA X22.r X22.g X22.n X22.o (.slice a22 X22.F.length c22)) ∧ LsR w33 a22 c22 X22.F ∧ Blk w33 y25 25 (faA X22.r X22.g X22.n X22.o (.slice a25 X22.F.length c25)) ∧ LsR w33 a25 c25 X22.F) := ⟨HI31.out.1.trans (bt.mono (by have := HI31.out.2.1.lt; omega)), HI31.out.2.1.kept (Kept.of_below bt (fun _ => False)) id, HI31.out.2.2.1.kept (Kept.of_below bt (fun _ => False)) id, HI31.out.2.2.2.1.carry bt, HI31.out.2.2.2.2.1.carry bt, HI31.out.2.2.2.2.2.1.kept (Kept.of_below bt (fun _ => False)) id, HI31.out.2.2.2.2.2.2.1.carry bt, HI31.out.2.2.2.2.2.2.2.1.kept (Kept.of_below bt (fun _ => False)) id, HI31.out.2.2.2.2.2.2.2.2.1.carry bt, HI31.out.2.2.2.2.2.2.2.2.2.1.kept (Kept.of_below bt (fun _ => False)) id, HI31.out.2.2.2.2.2.2.2.2.2.2.1.carry bt, HI31.out.2.2.2.2.2.2.2.2.2.2.2.1.kept (Kept.of_below bt (fun _ => False)) id, HI31.out.2.2.2.2.2.2.2.2.2.2.2.2.1.carry bt, HI31.out.2.2.2.2.2.2.2.2.2.2.2.2.2.1.kept (Kept.of_below bt (fun _ => False)) id, HI31.out.2.2.2.2.2.2.2.2.2.2.2.2.2.2.1.carry bt, HI31.out.2.2.2.2.2.2.2.2.2.2.2.2.2.2.2.1.kept (Kept.of_below bt (fun _ => False)) id, HI31.out.2.2.2.2.2.2.2.2.2.2.2.2.2.2.2.2.carry bt, NN, r25.carry BB⟩
      clear HI31 b BB NN bt r25
      go_upto_region 14 with fail
      rw [← hw33, ← hy25]
      clear hw33 hy25
      refine AnyG.start (T := fun Y => Below w33.drew.heap.size w33.drew Y) (U := fun _ => True) (j0 := 100) (by kernel_rfl) ?_
      obtain ⟨w35, hw35⟩ : ∃ w35, w35 = w33.drew := ⟨_, rfl⟩
      have BD : Below w33.heap.size w33 w35 := by rw [hw35]; exact (Below.refl _ _).drew
      rw [← hw35]
      have HG36 : Hd (∀ Y, Below w35.heap.size w35 Y → Below A w Y ∧ Blk Y A 25 (faA r g nn o (.slice a n c)) ∧ Blk Y (A + 1) 28 #[.int .i64 t0, .int .i64 t1, .int .i64 t2, .int .i64 t3, .int .i64 t4] ∧ LsR Y a c F ∧ HnR Y ah nh H0 ∧ Blk Y y13 25 (faA r g nn o (.slice a13 n c13)) ∧ LsR Y a13 c13 F ∧ Blk Y y14 25 (faA X14.r X14.g X14.n X14.o (.slice a14 X14.F.length c14)) ∧ LsR Y a14 c14 X14.F ∧ Blk Y y16 25 (faA X14.r X14.g X14.n X14.o (.slice a16 X14.F.length c16)) ∧ LsR Y a16 c16 X14.F ∧ Blk Y y18 25 (faA X18.r X18.g X18.n X18.o (.slice a18 X18.F.length c18)) ∧ LsR Y a18 c18 X18.F ∧ Blk Y y20 25 (faA X18.r X18.g X18.n X18.o (.slice a20 X18.F.length c20)) ∧ LsR Y a20 c20 X18.F ∧ Blk Y y22 25 (faA X22.r X22.g X22.n X22.o (.slice a22 X22.F.length c22)) ∧ LsR Y a22 c22 X22.F ∧ Blk Y y25 25 (faA X22.r X22.g X22.n X22.o (.slice a25 X22.F.length c25)) ∧ LsR Y a25 c25 X22.F) := ⟨fun Y q => by
        have qq := BD.trans (q.mono BD.size)
        exact ⟨HI34.out.1.trans (qq.mono (by have := HI34.out.2.1.lt; omega)), HI34.out.2.1.kept (Kept.of_below qq (fun _ => False)) id, HI34.out.2.2.1.kept (Kept.of_below qq (fun _ => False)) id, HI34.out.2.2.2.1.carry qq, HI34.out.2.2.2.2.1.carry qq, HI34.out.2.2.2.2.2.1.kept (Kept.of_below qq (fun _ => False)) id, HI34.out.2.2.2.2.2.2.1.carry qq, HI34.out.2.2.2.2.2.2.2.1.kept (Kept.of_below qq (fun _ => False)) id, HI34.out.2.2.2.2.2.2.2.2.1.carry qq, HI34.out.2.2.2.2.2.2.2.2.2.1.kept (Kept.of_below qq (fun _ => False)) id, HI34.out.2.2.2.2.2.2.2.2.2.2.1.carry qq, HI34.out.2.2.2.2.2.2.2.2.2.2.2.1.kept (Kept.of_below qq (fun _ => False)) id, HI34.out.2.2.2.2.2.2.2.2.2.2.2.2.1.carry qq, HI34.out.2.2.2.2.2.2.2.2.2.2.2.2.2.1.kept (Kept.of_below qq (fun _ => False)) id, HI34.out.2.2.2.2.2.2.2.2.2.2.2.2.2.2.1.carry qq, HI34.out.2.2.2.2.2.2.2.2.2.2.2.2.2.2.2.1.kept (Kept.of_below qq (fun _ => False)) id, HI34.out.2.2.2.2.2.2.2.2.2.2.2.2.2.2.2.2.1.carry qq, HI34.out.2.2.2.2.2.2.2.2.2.2.2.2.2.2.2.2.2.1.kept (Kept.of_below qq (fun _ => False)) id, HI34.out.2.2.2.2.2.2.2.2.2.2.2.2.2.2.2.2.2.2.carry qq⟩⟩
      clear BD hw35 HI34
      have R : Below w35.heap.size w35 w35 := Below.refl _ _
      refine .tq 0 130 R ?_; simp only [oqA, oqB, oqC]
      refine .tq 1 131 R ?_; simp only [oqA, oqB, oqC]
      refine .tq (v := .bool false) 2 132 R ?_ (hy := fun w hSw => by go_simp); simp only [oqA, oqB, oqC]
      refine .tq 3 133 R ?_; simp only [oqA, oqB, oqC]
      refine .tq 4 134 R ?_; simp only [oqA, oqB, oqC]
      refine .tq 5 135 R ?_; simp only [oqA, oqB, oqC]
      refine .tq (v := .bool false) 6 136 R ?_ (hy := fun w hSw => by go_simp); simp only [oqA, oqB, oqC]
      refine .tq 7 137 R ?_; simp only [oqA, oqB, oqC]
      refine .tq 8 138 R ?_; simp only [oqA, oqB, oqC]
      refine .tq 9 139 R ?_ (hy := fun w hSw => by have s := ((HG36.out w hSw).2.2.2.2.2.2.2.2.2.2.2.2.2.2.2.1).fair.1; go_simp; rfl); simp only [oqA, oqB, oqC]
      refine .tq 10 140 R ?_ (hy := fun w hSw => by have s := ((HG36.out w hSw).2.2.2.2.2.2.2.2.2.2.2.2.2.2.2.2.2.1).fair.1; go_simp; rfl); simp only [oqA, oqB, oqC]
      have CC := C16.out X22 w35 a22 c22 a25 c25 HFS.out.2.2.1 ((HG36.out w35 R).2.2.2.2.2.2.2.2.2.2.2.2.2.2.2.2.1) ((HG36.out w35 R).2.2.2.2.2.2.2.2.2.2.2.2.2.2.2.2.2.2)
      refine AnyG.ready (rs := [11]) (by kernel_rfl) (by simp) ?_
      refine AllG.cons rfl (fun K hK => ?_) AllG.nil
      go_simp
      refine CC.mono ?_
      rintro e w37 ⟨rfl, b⟩
      have R38 : Below w35.heap.size w35 w37 := R.trans (b.mono R.size)
      refine hK.out _ _ ⟨R38, fun _ => trivial⟩ ?_
      clear hK K CC b
      refine .tq 12 142 R38 ?_; simp only [oqA, oqB, oqC]
      refine .tq 13 143 R38 ?_; simp only [oqA, oqB, oqC]
      refine .tq 14 144 R38 ?_; simp only [oqA, oqB, oqC]
      refine .tq 15 145 R38 ?_ (hy := fun w hSw => by have s := ((HG36.out w hSw).2.2.2.2.2.1).fair.1; go_simp; rfl); simp only [oqA, oqB, oqC]
      refine .tq 16 146 R38 ?_; simp only [oqA, oqB, oqC]
      refine .tq 18 148 R38 ?_ (hy := fun w hSw => by have s := ((HG36.out w hSw).2.1).fair.1; go_simp; rfl); simp only [oqA, oqB, oqC]
      refine .tq 19 149 R38 ?_; simp only [oqA, oqB, oqC]
      have CC := C21.out w37 a13 c13 ((HG36.out w37 R38).2.2.2.2.2.2.1) ((HG36.out w37 R38).2.2.2.2.1)
      refine AnyG.ready (rs := [17]) (by kernel_rfl) (by simp) ?_
      refine AllG.cons rfl (fun K hK => ?_) AllG.nil
      go_simp
      refine CC.mono ?_
      rintro e w39 ⟨rfl, b⟩
      have R40 : Below w35.heap.size w35 w39 := R38.trans (b.mono R38.size)
      refine hK.out _ _ ⟨R40, fun _ => trivial⟩ ?_
      clear hK K CC b
      have CC := C22.out w39 a c ((HG36.out w39 R40).2.2.2.1) ((HG36.out w39 R40).2.2.2.2.1)
      refine AnyG.ready (rs := [20]) (by kernel_rfl) (by simp) ?_
      refine AllG.cons rfl (fun K hK => ?_) AllG.nil
      go_simp
      refine CC.mono ?_
      rintro e w41 ⟨rfl, b⟩
      have R42 : Below w35.heap.size w35 w41 := R40.trans (b.mono R40.size)
      refine hK.out _ _ ⟨R42, fun _ => trivial⟩ ?_
      clear hK K CC b
      refine .tq (v := .bool false) 21 151 R42 ?_ (hy := fun w hSw => by go_simp); simp only [oqA, oqB, oqC]
      refine .tq 22 152 R42 ?_; simp only [oqA, oqB, oqC]
      refine AnyG.done (by kernel_rfl) ?_ _
      have HI43 : Hd (Below A w w41 ∧ Blk w41 A 25 (faA r g nn o (.slice a n c)) ∧ Blk w41 (A + 1) 28 #[.int .i64 t0, .int .i64 t1, .int .i64 t2, .int .i64 t3, .int .i64 t4] ∧ LsR w41 a c F ∧ HnR w41 ah nh H0 ∧ Blk w41 y13 25 (faA r g nn o (.slice a13 n c13)) ∧ LsR w41 a13 c13 F ∧ Blk w41 y14 25 (faA X14.r X14.g X14.n X14.o (.slice a14 X14.F.length c14)) ∧ LsR w41 a14 c14 X14.F ∧ Blk w41 y16 25 (faA X14.r X14.g X14.n X14.o (.slice a16 X14.F.length c16)) ∧ LsR w41 a16 c16 X14.F ∧ Blk w41 y18 25 (faA X18.r X18.g X18.n X18.o (.slice a18 X18.F.length c18)) ∧ LsR w41 a18 c18 X18.F ∧ Blk w41 y20 25 (faA X18.r X18.g X18.n X18.o (.slice a20 X18.F.length c20)) ∧ LsR w41 a20 c20 X18.F ∧ Blk w41 y22 25 (faA X22.r X22.g X22.n X22.o (.slice a22 X22.F.length c22)) ∧ LsR w41 a22 c22 X22.F ∧ Blk w41 y25 25 (faA X22.r X22.g X22.n X22.o (.slice a25 X22.F.length c25)) ∧ LsR w41 a25 c25 X22.F) := ⟨HG36.out w41 R42⟩
      clear HG36 R R38 R40 R42
      go_upto_region 16 with fail
      obtain ⟨⟨x0, x1, x2, x3, x4⟩, -⟩ := Blk.fair (HI43.out.2.2.2.2.2.1)
      have CC := C23.out w41 a13 c13 (HI43.out.2.2.2.2.2.2.1)
      go_wp2_with fail
      go_at_call 23
      refine CC.mono ?_
      rintro e w44 ⟨⟨v, rfl, a28, c28, rfl, r28⟩, b⟩
      clear CC x0 x1 x2 x3 x4
      obtain ⟨w45, hw45⟩ : ∃ w45, w45 = (w44.alloc (.cells #[.int .u64 X28.r, .int .i64 X28.g, .int .i64 X28.n, .int .i64 X28.o, .slice a28 X28.F.length c28] 25)).alloc (.cells #[.int .i64 q0, .int .i64 q1, .int .i64 q2, .int .i64 q3, .int .i64 q4] 28) := ⟨_, rfl⟩
      obtain ⟨BB, NN, NT⟩ := boxes w44 25 28 #[.int .u64 X28.r, .int .i64 X28.g, .int .i64 X28.n, .int .i64 X28.o, .slice a28 X28.F.length c28] #[.int .i64 q0, .int .i64 q1, .int .i64 q2, .int .i64 q3, .int .i64 q4]
      rw [← hw45] at BB NN NT
      have NN : Blk w45 w44.heap.size 25 (faA X28.r X28.g X28.n X28.o (.slice a28 X28.F.length c28)) := NN
      have bt := b.trans (BB.mono b.size)
      obtain ⟨y28, hy28⟩ : ∃ y28, y28 = w44.heap.size := ⟨_, rfl⟩
      rw [← hy28] at NN NT
      have HI46 : Hd (Below A w w45 ∧ Blk w45 A 25 (faA r g nn o (.slice a n c)) ∧ Blk w45 (A + 1) 28 #[.int .i64 t0, .int .i64 t1, .int .i64 t2, .int .i64 t3, .int .i64 t4] ∧ LsR w45 a c F ∧ HnR w45 ah nh H0 ∧ Blk w45 y13 25 (faA r g nn o (.slice a13 n c13)) ∧ LsR w45 a13 c13 F ∧ Blk w45 y14 25 (faA X14.r X14.g X14.n X14.o (.slice a14 X14.F.length c14)) ∧ LsR w45 a14 c14 X14.F ∧ Blk w45 y16 25 (faA X14.r X14.g X14.n X14.o (.slice a16 X14.F.length c16)) ∧ LsR w45 a16 c16 X14.F ∧ Blk w45 y18 25 (faA X18.r X18.g X18.n X18.o (.slice a18 X18.F.length c18)) ∧ LsR w45 a18 c18 X18.F ∧ Blk w45 y20 25 (faA X18.r X18.g X18.n X18.o (.slice a20 X18.F.length c20)) ∧ LsR w45 a20 c20 X18.F ∧ Blk w45 y22 25 (faA X22.r X22.g X22.n X22.o (.slice a22 X22.F.length c22)) ∧ LsR w45 a22 c22 X22.F ∧ Blk w45 y25 25 (faA X22.r X22.g X22.n X22.o (.slice a25 X22.F.length c25)) ∧ LsR w45 a25 c25 X22.F ∧ Blk w45 y28 25 (faA X28.r X28.g X28.n X28.o (.slice a28 X28.F.length c28)) ∧ LsR w45 a28 c28 X28.F ∧ Blk w45 (y28 + 1) 28 #[.int .i64 q0, .int .i64 q1, .int .i64 q2, .int .i64 q3, .int .i64 q4]) := ⟨HI43.out.1.trans (bt.mono (by have := HI43.out.2.1.lt; omega)), HI43.out.2.1.kept (Kept.of_below bt (fun _ => False)) id, HI43.out.2.2.1.kept (Kept.of_below bt (fun _ => False)) id, HI43.out.2.2.2.1.carry bt, HI43.out.2.2.2.2.1.carry bt, HI43.out.2.2.2.2.2.1.kept (Kept.of_below bt (fun _ => False)) id, HI43.out.2.2.2.2.2.2.1.carry bt, HI43.out.2.2.2.2.2.2.2.1.kept (Kept.of_below bt (fun _ => False)) id, HI43.out.2.2.2.2.2.2.2.2.1.carry bt, HI43.out.2.2.2.2.2.2.2.2.2.1.kept (Kept.of_below bt (fun _ => False)) id, HI43.out.2.2.2.2.2.2.2.2.2.2.1.carry bt, HI43.out.2.2.2.2.2.2.2.2.2.2.2.1.kept (Kept.of_below bt (fun _ => False)) id, HI43.out.2.2.2.2.2.2.2.2.2.2.2.2.1.carry bt, HI43.out.2.2.2.2.2.2.2.2.2.2.2.2.2.1.kept (Kept.of_below bt (fun _ => False)) id, HI43.out.2.2.2.2.2.2.2.2.2.2.2.2.2.2.1.carry bt, HI43.out.2.2.2.2.2.2.2.2.2.2.2.2.2.2.2.1.kept (Kept.of_below bt (fun _ => False)) id, HI43.out.2.2.2.2.2.2.2.2.2.2.2.2.2.2.2.2.1.carry bt, HI43.out.2.2.2.2.2.2.2.2.2.2.2.2.2.2.2.2.2.1.kept (Kept.of_below bt (fun _ => False)) id, HI43.out.2.2.2.2.2.2.2.2.2.2.2.2.2.2.2.2.2.2.carry bt, NN, r28.carry BB, NT⟩
      clear HI43 b BB NN bt r28 NT
      go_upto_region 17 with fail
      rw [← hw45, ← hy28]
      clear hw45 hy28
      obtain ⟨⟨x0, x1, x2, x3, x4⟩, -⟩ := Blk.fair (HI46.out.2.1)
      have CC := C24.out w45 a c (HI46.out.2.2.2.1)
      go_wp2_with fail
      go_at_call 24
      refine CC.mono ?_
      rintro e w47 ⟨⟨v, rfl, a31, c31, rfl, r31⟩, b⟩
      clear CC x0 x1 x2 x3 x4
      obtain ⟨w48, hw48⟩ : ∃ w48, w48 = (w47.alloc (.cells #[.int .u64 X28.r, .int .i64 X28.g, .int .i64 X28.n, .int .i64 X28.o, .slice a31 X28.F.length c31] 25)).alloc (.cells #[.int .i64 q0, .int .i64 q1, .int .i64 q2, .int .i64 q3, .int .i64 q4] 28) := ⟨_, rfl⟩
      obtain ⟨BB, NN, NT⟩ := boxes w47 25 28 #[.int .u64 X28.r, .int .i64 X28.g, .int .i64 X28.n, .int .i64 X28.o, .slice a31 X28.F.length c31] #[.int .i64 q0, .int .i64 q1, .int .i64 q2, .int .i64 q3, .int .i64 q4]
      rw [← hw48] at BB NN NT
      have NN : Blk w48 w47.heap.size 25 (faA X28.r X28.g X28.n X28.o (.slice a31 X28.F.length c31)) := NN
      have bt := b.trans (BB.mono b.size)
      obtain ⟨y31, hy31⟩ : ∃ y31, y31 = w47.heap.size := ⟨_, rfl⟩
      rw [← hy31] at NN NT
      have HI49 : Hd (Below A w w48 ∧ Blk w48 A 25 (faA r g nn o (.slice a n c)) ∧ Blk w48 (A + 1) 28 #[.int .i64 t0, .int .i64 t1, .int .i64 t2, .int .i64 t3, .int .i64 t4] ∧ LsR w48 a c F ∧ HnR w48 ah nh H0 ∧ Blk w48 y13 25 (faA r g nn o (.slice a13 n c13)) ∧ LsR w48 a13 c13 F ∧ Blk w48 y14 25 (faA X14.r X14.g X14.n X14.o (.slice a14 X14.F.length c14)) ∧ LsR w48 a14 c14 X14.F ∧ Blk w48 y16 25 (faA X14.r X14.g X14.n X14.o (.slice a16 X14.F.length c16)) ∧ LsR w48 a16 c16 X14.F ∧ Blk w48 y18 25 (faA X18.r X18.g X18.n X18.o (.slice a18 X18.F.length c18)) ∧ LsR w48 a18 c18 X18.F ∧ Blk w48 y20 25 (faA X18.r X18.g X18.n X18.o (.slice a20 X18.F.length c20)) ∧ LsR w48 a20 c20 X18.F ∧ Blk w48 y22 25 (faA X22.r X22.g X22.n X22.o (.slice a22 X22.F.length c22)) ∧ LsR w48 a22 c22 X22.F ∧ Blk w48 y25 25 (faA X22.r X22.g X22.n X22.o (.slice a25 X22.F.length c25)) ∧ LsR w48 a25 c25 X22.F ∧ Blk w48 y28 25 (faA X28.r X28.g X28.n X28.o (.slice a28 X28.F.length c28)) ∧ LsR w48 a28 c28 X28.F ∧ Blk w48 (y28 + 1) 28 #[.int .i64 q0, .int .i64 q1, .int .i64 q2, .int .i64 q3, .int .i64 q4] ∧ Blk w48 y31 25 (faA X28.r X28.g X28.n X28.o (.slice a31 X28.F.length c31)) ∧ LsR w48 a31 c31 X28.F ∧ Blk w48 (y31 + 1) 28 #[.int .i64 q0, .int .i64 q1, .int .i64 q2, .int .i64 q3, .int .i64 q4]) := ⟨HI46.out.1.trans (bt.mono (by have := HI46.out.2.1.lt; omega)), HI46.out.2.1.kept (Kept.of_below bt (fun _ => False)) id, HI46.out.2.2.1.kept (Kept.of_below bt (fun _ => False)) id, HI46.out.2.2.2.1.carry bt, HI46.out.2.2.2.2.1.carry bt, HI46.out.2.2.2.2.2.1.kept (Kept.of_below bt (fun _ => False)) id, HI46.out.2.2.2.2.2.2.1.carry bt, HI46.out.2.2.2.2.2.2.2.1.kept (Kept.of_below bt (fun _ => False)) id, HI46.out.2.2.2.2.2.2.2.2.1.carry bt, HI46.out.2.2.2.2.2.2.2.2.2.1.kept (Kept.of_below bt (fun _ => False)) id, HI46.out.2.2.2.2.2.2.2.2.2.2.1.carry bt, HI46.out.2.2.2.2.2.2.2.2.2.2.2.1.kept (Kept.of_below bt (fun _ => False)) id, HI46.out.2.2.2.2.2.2.2.2.2.2.2.2.1.carry bt, HI46.out.2.2.2.2.2.2.2.2.2.2.2.2.2.1.kept (Kept.of_below bt (fun _ => False)) id, HI46.out.2.2.2.2.2.2.2.2.2.2.2.2.2.2.1.carry bt, HI46.out.2.2.2.2.2.2.2.2.2.2.2.2.2.2.2.1.kept (Kept.of_below bt (fun _ => False)) id, HI46.out.2.2.2.2.2.2.2.2.2.2.2.2.2.2.2.2.1.carry bt, HI46.out.2.2.2.2.2.2.2.2.2.2.2.2.2.2.2.2.2.1.kept (Kept.of_below bt (fun _ => False)) id, HI46.out.2.2.2.2.2.2.2.2.2.2.2.2.2.2.2.2.2.2.1.carry bt, HI46.out.2.2.2.2.2.2.2.2.2.2.2.2.2.2.2.2.2.2.2.1.kept (Kept.of_below bt (fun _ => False)) id, HI46.out.2.2.2.2.2.2.2.2.2.2.2.2.2.2.2.2.2.2.2.2.1.carry bt, HI46.out.2.2.2.2.2.2.2.2.2.2.2.2.2.2.2.2.2.2.2.2.2.kept (Kept.of_below bt (fun _ => False)) id, NN, r31.carry BB, NT⟩
      clear HI46 b BB NN bt r31 NT
      go_upto_region 18 with fail
      rw [← hw48, ← hy31]
      clear hw48 hy31
      obtain ⟨⟨x0, x1, x2, x3, x4⟩, -⟩ := Blk.fair (HI49.out.2.2.2.2.2.1)
      obtain ⟨⟨d0, d1, d2, d3, d4⟩, -⟩ := Blk.five (t := ⟨t0, t1, t2, t3, t4⟩) (HI49.out.2.2.1)
      have CC := C25.out w48 a13 c13 (HI49.out.2.2.2.2.2.2.1)
      go_wp2_with fail
      go_at_call 25
      refine CC.mono ?_
      rintro e w50 ⟨⟨v, rfl, a34, c34, rfl, r34⟩, b⟩
      clear CC x0 x1 x2 x3 x4 d0 d1 d2 d3 d4
      obtain ⟨w51, hw51⟩ : ∃ w51, w51 = (w50.alloc (.cells #[.int .u64 X34.r, .int .i64 X34.g, .int .i64 X34.n, .int .i64 X34.o, .slice a34 X34.F.length c34] 25)).alloc (.cells #[.int .i64 p0, .int .i64 p1, .int .i64 p2, .int .i64 p3, .int .i64 p4] 28) := ⟨_, rfl⟩
      obtain ⟨BB, NN, NT⟩ := boxes w50 25 28 #[.int .u64 X34.r, .int .i64 X34.g, .int .i64 X34.n, .int .i64 X34.o, .slice a34 X34.F.length c34] #[.int .i64 p0, .int .i64 p1, .int .i64 p2, .int .i64 p3, .int .i64 p4]
      rw [← hw51] at BB NN NT
      have NN : Blk w51 w50.heap.size 25 (faA X34.r X34.g X34.n X34.o (.slice a34 X34.F.length c34)) := NN
      have bt := b.trans (BB.mono b.size)
      obtain ⟨y34, hy34⟩ : ∃ y34, y34 = w50.heap.size := ⟨_, rfl⟩
      rw [← hy34] at NN NT
      have HI52 : Hd (Below A w w51 ∧ Blk w51 A 25 (faA r g nn o (.slice a n c)) ∧ Blk w51 (A + 1) 28 #[.int .i64 t0, .int .i64 t1, .int .i64 t2, .int .i64 t3, .int .i64 t4] ∧ LsR w51 a c F ∧ HnR w51 ah nh H0 ∧ Blk w51 y13 25 (faA r g nn o (.slice a13 n c13)) ∧ LsR w51 a13 c13 F ∧ Blk w51 y14 25 (faA X14.r X14.g X14.n X14.o (.slice a14 X14.F.length c14)) ∧ LsR w51 a14 c14 X14.F ∧ Blk w51 y16 25 (faA X14.r X14.g X14.n X14.o (.slice a16 X14.F.length c16)) ∧ LsR w51 a16 c16 X14.F ∧ Blk w51 y18 25 (faA X18.r X18.g X18.n X18.o (.slice a18 X18.F.length c18)) ∧ LsR w51 a18 c18 X18.F ∧ Blk w51 y20 25 (faA X18.r X18.g X18.n X18.o (.slice a20 X18.F.length c20)) ∧ LsR w51 a20 c20 X18.F ∧ Blk w51 y22 25 (faA X22.r X22.g X22.n X22.o (.slice a22 X22.F.length c22)) ∧ LsR w51 a22 c22 X22.F ∧ Blk w51 y25 25 (faA X22.r X22.g X22.n X22.o (.slice a25 X22.F.length c25)) ∧ LsR w51 a25 c25 X22.F ∧ Blk w51 y28 25 (faA X28.r X28.g X28.n X28.o (.slice a28 X28.F.length c28)) ∧ LsR w51 a28 c28 X28.F ∧ Blk w51 (y28 + 1) 28 #[.int .i64 q0, .int .i64 q1, .int .i64 q2, .int .i64 q3, .int .i64 q4] ∧ Blk w51 y31 25 (faA X28.r X28.g X28.n X28.o (.slice a31 X28.F.length c31)) ∧ LsR w51 a31 c31 X28.F ∧ Blk w51 (y31 + 1) 28 #[.int .i64 q0, .int .i64 q1, .int .i64 q2, .int .i64 q3, .int .i64 q4] ∧ Blk w51 y34 25 (faA X34.r X34.g X34.n X34.o (.slice a34 X34.F.length c34)) ∧ LsR w51 a34 c34 X34.F ∧ Blk w51 (y34 + 1) 28 #[.int .i64 p0, .int .i64 p1, .int .i64 p2, .int .i64 p3, .int .i64 p4]) := ⟨HI49.out.1.trans (bt.mono (by have := HI49.out.2.1.lt; omega)), HI49.out.2.1.kept (Kept.of_below bt (fun _ => False)) id, HI49.out.2.2.1.kept (Kept.of_below bt (fun _ => False)) id, HI49.out.2.2.2.1.carry bt, HI49.out.2.2.2.2.1.carry bt, HI49.out.2.2.2.2.2.1.kept (Kept.of_below bt (fun _ => False)) id, HI49.out.2.2.2.2.2.2.1.carry bt, HI49.out.2.2.2.2.2.2.2.1.kept (Kept.of_below bt (fun _ => False)) id, HI49.out.2.2.2.2.2.2.2.2.1.carry bt, HI49.out.2.2.2.2.2.2.2.2.2.1.kept (Kept.of_below bt (fun _ => False)) id, HI49.out.2.2.2.2.2.2.2.2.2.2.1.carry bt, HI49.out.2.2.2.2.2.2.2.2.2.2.2.1.kept (Kept.of_below bt (fun _ => False)) id, HI49.out.2.2.2.2.2.2.2.2.2.2.2.2.1.carry bt, HI49.out.2.2.2.2.2.2.2.2.2.2.2.2.2.1.kept (Kept.of_below bt (fun _ => False)) id, HI49.out.2.2.2.2.2.2.2.2.2.2.2.2.2.2.1.carry bt, HI49.out.2.2.2.2.2.2.2.2.2.2.2.2.2.2.2.1.kept (Kept.of_below bt (fun _ => False)) id, HI49.out.2.2.2.2.2.2.2.2.2.2.2.2.2.2.2.2.1.carry bt, HI49.out.2.2.2.2.2.2.2.2.2.2.2.2.2.2.2.2.2.1.kept (Kept.of_below bt (fun _ => False)) id, HI49.out.2.2.2.2.2.2.2.2.2.2.2.2.2.2.2.2.2.2.1.carry bt, HI49.out.2.2.2.2.2.2.2.2.2.2.2.2.2.2.2.2.2.2.2.1.kept (Kept.of_below bt (fun _ => False)) id, HI49.out.2.2.2.2.2.2.2.2.2.2.2.2.2.2.2.2.2.2.2.2.1.carry bt, HI49.out.2.2.2.2.2.2.2.2.2.2.2.2.2.2.2.2.2.2.2.2.2.1.kept (Kept.of_below bt (fun _ => False)) id, HI49.out.2.2.2.2.2.2.2.2.2.2.2.2.2.2.2.2.2.2.2.2.2.2.1.kept (Kept.of_below bt (fun _ => False)) id, HI49.out.2.2.2.2.2.2.2.2.2.2.2.2.2.2.2.2.2.2.2.2.2.2.2.1.carry bt, HI49.out.2.2.2.2.2.2.2.2.2.2.2.2.2.2.2.2.2.2.2.2.2.2.2.2.kept (Kept.of_below bt (fun _ => False)) id, NN, r34.carry BB, NT⟩
      clear HI49 b BB NN bt r34 NT
      go_upto_region 19 with fail
      rw [← hw51, ← hy34]
      clear hw51 hy34
      obtain ⟨⟨x0, x1, x2, x3, x4⟩, -⟩ := Blk.fair (HI52.out.2.1)
      obtain ⟨⟨d0, d1, d2, d3, d4⟩, -⟩ := Blk.five (t := ⟨t0, t1, t2, t3, t4⟩) (HI52.out.2.2.1)
      have CC := C26.out w51 a c (HI52.out.2.2.2.1)
      go_wp2_with fail
      go_at_call 26
      refine CC.mono ?_
      rintro e w53 ⟨⟨v, rfl, a37, c37, rfl, r37⟩, b⟩
      clear CC x0 x1 x2 x3 x4 d0 d1 d2 d3 d4
      obtain ⟨w54, hw54⟩ : ∃ w54, w54 = (w53.alloc (.cells #[.int .u64 X34.r, .int .i64 X34.g, .int .i64 X34.n, .int .i64 X34.o, .slice a37 X34.F.length c37] 25)).alloc (.cells #[.int .i64 p0, .int .i64 p1, .int .i64 p2, .int .i64 p3, .int .i64 p4] 28) := ⟨_, rfl⟩
      obtain ⟨BB, NN, NT⟩ := boxes w53 25 28 #[.int .u64 X34.r, .int .i64 X34.g, .int .i64 X34.n, .int .i64 X34.o, .slice a37 X34.F.length c37] #[.int .i64 p0, .int .i64 p1, .int .i64 p2, .int .i64 p3, .int .i64 p4]
      rw [← hw54] at BB NN NT
      have NN : Blk w54 w53.heap.size 25 (faA X34.r X34.g X34.n X34.o (.slice a37 X34.F.length c37)) := NN
      have bt := b.trans (BB.mono b.size)
      obtain ⟨y37, hy37⟩ : ∃ y37, y37 = w53.heap.size := ⟨_, rfl⟩
      rw [← hy37] at NN NT
      have HI55 : Hd (Below A w w54 ∧ Blk w54 A 25 (faA r g nn o (.slice a n c)) ∧ Blk w54 (A + 1) 28 #[.int .i64 t0, .int .i64 t1, .int .i64 t2, .int .i64 t3, .int .i64 t4] ∧ LsR w54 a c F ∧ HnR w54 ah nh H0 ∧ Blk w54 y13 25 (faA r g nn o (.slice a13 n c13)) ∧ LsR w54 a13 c13 F ∧ Blk w54 y14 25 (faA X14.r X14.g X14.n X14.o (.slice a14 X14.F.length c14)) ∧ LsR w54 a14 c14 X14.F ∧ Blk w54 y16 25 (faA X14.r X14.g X14.n X14.o (.slice a16 X14.F.length c16)) ∧ LsR w54 a16 c16 X14.F ∧ Blk w54 y18 25 (faA X18.r X18.g X18.n X18.o (.slice a18 X18.F.length c18)) ∧ LsR w54 a18 c18 X18.F ∧ Blk w54 y20 25 (faA X18.r X18.g X18.n X18.o (.slice a20 X18.F.length c20)) ∧ LsR w54 a20 c20 X18.F ∧ Blk w54 y22 25 (faA X22.r X22.g X22.n X22.o (.slice a22 X22.F.length c22)) ∧ LsR w54 a22 c22 X22.F ∧ Blk w54 y25 25 (faA X22.r X22.g X22.n X22.o (.slice a25 X22.F.length c25)) ∧ LsR w54 a25 c25 X22.F ∧ Blk w54 y28 25 (faA X28.r X28.g X28.n X28.o (.slice a28 X28.F.length c28)) ∧ LsR w54 a28 c28 X28.F ∧ Blk w54 (y28 + 1) 28 #[.int .i64 q0, .int .i64 q1, .int .i64 q2, .int .i64 q3, .int .i64 q4] ∧ Blk w54 y31 25 (faA X28.r X28.g X28.n X28.o (.slice a31 X28.F.length c31)) ∧ LsR w54 a31 c31 X28.F ∧ Blk w54 (y31 + 1) 28 #[.int .i64 q0, .int .i64 q1, .int .i64 q2, .int .i64 q3, .int .i64 q4] ∧ Blk w54 y34 25 (faA X34.r X34.g X34.n X34.o (.slice a34 X34.F.length c34)) ∧ LsR w54 a34 c34 X34.F ∧ Blk w54 (y34 + 1) 28 #[.int .i64 p0, .int .i64 p1, .int .i64 p2, .int .i64 p3, .int .i64 p4] ∧ Blk w54 y37 25 (faA X34.r X34.g X34.n X34.o (.slice a37 X34.F.length c37)) ∧ LsR w54 a37 c37 X34.F ∧ Blk w54 (y37 + 1) 28 #[.int .i64 p0, .int .i64 p1, .int .i64 p2, .int .i64 p3, .int .i64 p4]) := ⟨HI52.out.1.trans (bt.mono (by have := HI52.out.2.1.lt; omega)), HI52.out.2.1.kept (Kept.of_below bt (fun _ => False)) id, HI52.out.2.2.1.kept (Kept.of_below bt (fun _ => False)) id, HI52.out.2.2.2.1.carry bt, HI52.out.2.2.2.2.1.carry bt, HI52.out.2.2.2.2.2.1.kept (Kept.of_below bt (fun _ => False)) id, HI52.out.2.2.2.2.2.2.1.carry bt, HI52.out.2.2.2.2.2.2.2.1.kept (Kept.of_below bt (fun _ => False)) id, HI52.out.2.2.2.2.2.2.2.2.1.carry bt, HI52.out.2.2.2.2.2.2.2.2.2.1.kept (Kept.of_below bt (fun _ => False)) id, HI52.out.2.2.2.2.2.2.2.2.2.2.1.carry bt, HI52.out.2.2.2.2.2.2.2.2.2.2.2.1.kept (Kept.of_below bt (fun _ => False)) id, HI52.out.2.2.2.2.2.2.2.2.2.2.2.2.1.carry bt, HI52.out.2.2.2.2.2.2.2.2.2.2.2.2.2.1.kept (Kept.of_below bt (fun _ => False)) id, HI52.out.2.2.2.2.2.2.2.2.2.2.2.2.2.2.1.carry bt, HI52.out.2.2.2.2.2.2.2.2.2.2.2.2.2.2.2.1.kept (Kept.of_below bt (fun _ => False)) id, HI52.out.2.2.2.2.2.2.2.2.2.2.2.2.2.2.2.2.1.carry bt, HI52.out.2.2.2.2.2.2.2.2.2.2.2.2.2.2.2.2.2.1.kept (Kept.of_below bt (fun _ => False)) id, HI52.out.2.2.2.2.2.2.2.2.2.2.2.2.2.2.2.2.2.2.1.carry bt, HI52.out.2.2.2.2.2.2.2.2.2.2.2.2.2.2.2.2.2.2.2.1.kept (Kept.of_below bt (fun _ => False)) id, HI52.out.2.2.2.2.2.2.2.2.2.2.2.2.2.2.2.2.2.2.2.2.1.carry bt, HI52.out.2.2.2.2.2.2.2.2.2.2.2.2.2.2.2.2.2.2.2.2.2.1.kept (Kept.of_below bt (fun _ => False)) id, HI52.out.2.2.2.2.2.2.2.2.2.2.2.2.2.2.2.2.2.2.2.2.2.2.1.kept (Kept.of_below bt (fun _ => False)) id, HI52.out.2.2.2.2.2.2.2.2.2.2.2.2.2.2.2.2.2.2.2.2.2.2.2.1.carry bt, HI52.out.2.2.2.2.2.2.2.2.2.2.2.2.2.2.2.2.2.2.2.2.2.2.2.2.1.kept (Kept.of_below bt (fun _ => False)) id, HI52.out.2.2.2.2.2.2.2.2.2.2.2.2.2.2.2.2.2.2.2.2.2.2.2.2.2.1.kept (Kept.of_below bt (fun _ => False)) id, HI52.out.2.2.2.2.2.2.2.2.2.2.2.2.2.2.2.2.2.2.2.2.2.2.2.2.2.2.1.carry bt, HI52.out.2.2.2.2.2.2.2.2.2.2.2.2.2.2.2.2.2.2.2.2.2.2.2.2.2.2.2.kept (Kept.of_below bt (fun _ => False)) id, NN, r37.carry BB, NT⟩
      clear HI52 b BB NN bt r37 NT
      go_upto_region 20 with fail
      rw [← hw54, ← hy37]
      clear hw54 hy37
      obtain ⟨⟨x0, x1, x2, x3, x4⟩, -⟩ := Blk.fair (HI55.out.2.2.2.2.2.2.2.2.2.2.2.2.2.2.2.2.2.2.2.1)
      obtain ⟨⟨z0, z1, z2, z3, z4⟩, -⟩ := Blk.fair (HI55.out.2.2.2.2.2.2.2.2.2.2.2.2.2.2.2.2.2.2.2.2.2.2.1)
      obtain ⟨⟨d0, d1, d2, d3, d4⟩, -⟩ := Blk.five (t := ⟨q0, q1, q2, q3, q4⟩) (HI55.out.2.2.2.2.2.2.2.2.2.2.2.2.2.2.2.2.2.2.2.2.2.1)
      obtain ⟨⟨f0, f1, f2, f3, f4⟩, -⟩ := Blk.five (t := ⟨q0, q1, q2, q3, q4⟩) (HI55.out.2.2.2.2.2.2.2.2.2.2.2.2.2.2.2.2.2.2.2.2.2.2.2.2.1)
      have CC := C16.out X28 w54 a28 c28 a31 c31 HFS.out.2.2.2.1 (HI55.out.2.2.2.2.2.2.2.2.2.2.2.2.2.2.2.2.2.2.2.2.1) (HI55.out.2.2.2.2.2.2.2.2.2.2.2.2.2.2.2.2.2.2.2.2.2.2.2.1)
      go_wp2_with fail
      go_at_call 16
      refine CC.mono ?_
      rintro e w56 ⟨rfl, b⟩
      clear CC x0 x1 x2 x3 x4 z0 z1 z2 z3 z4 d0 d1 d2 d3 d4 f0 f1 f2 f3 f4
      have HI57 : Hd (Below A w w56 ∧ Blk w56 A 25 (faA r g nn o (.slice a n c)) ∧ Blk w56 (A + 1) 28 #[.int .i64 t0, .int .i64 t1, .int .i64 t2, .int .i64 t3, .int .i64 t4] ∧ LsR w56 a c F ∧ HnR w56 ah nh H0 ∧ Blk w56 y13 25 (faA r g nn o (.slice a13 n c13)) ∧ LsR w56 a13 c13 F ∧ Blk w56 y14 25 (faA X14.r X14.g X14.n X14.o (.slice a14 X14.F.length c14)) ∧ LsR w56 a14 c14 X14.F ∧ Blk w56 y16 25 (faA X14.r X14.g X14.n X14.o (.slice a16 X14.F.length c16)) ∧ LsR w56 a16 c16 X14.F ∧ Blk w56 y18 25 (faA X18.r X18.g X18.n X18.o (.slice a18 X18.F.length c18)) ∧ LsR w56 a18 c18 X18.F ∧ Blk w56 y20 25 (faA X18.r X18.g X18.n X18.o (.slice a20 X18.F.length c20)) ∧ LsR w56 a20 c20 X18.F ∧ Blk w56 y22 25 (faA X22.r X22.g X22.n X22.o (.slice a22 X22.F.length c22)) ∧ LsR w56 a22 c22 X22.F ∧ Blk w56 y25 25 (faA X22.r X22.g X22.n X22.o (.slice a25 X22.F.length c25)) ∧ LsR w56 a25 c25 X22.F ∧ Blk w56 y28 25 (faA X28.r X28.g X28.n X28.o (.slice a28 X28.F.length c28)) ∧ LsR w56 a28 c28 X28.F ∧ Blk w56 (y28 + 1) 28 #[.int .i64 q0, .int .i64 q1, .int .i64 q2, .int .i64 q3, .int .i64 q4] ∧ Blk w56 y31 25 (faA X28.r X28.g X28.n X28.o (.slice a31 X28.F.length c31)) ∧ LsR w56 a31 c31 X28.F ∧ Blk w56 (y31 + 1) 28 #[.int .i64 q0, .int .i64 q1, .int .i64 q2, .int .i64 q3, .int .i64 q4] ∧ Blk w56 y34 25 (faA X34.r X34.g X34.n X34.o (.slice a34 X34.F.length c34)) ∧ LsR w56 a34 c34 X34.F ∧ Blk w56 (y34 + 1) 28 #[.int .i64 p0, .int .i64 p1, .int .i64 p2, .int .i64 p3, .int .i64 p4] ∧ Blk w56 y37 25 (faA X34.r X34.g X34.n X34.o (.slice a37 X34.F.length c37)) ∧ LsR w56 a37 c37 X34.F ∧ Blk w56 (y37 + 1) 28 #[.int .i64 p0, .int .i64 p1, .int .i64 p2, .int .i64 p3, .int .i64 p4]) := ⟨HI55.out.1.trans (b.mono (by have := HI55.out.2.1.lt; omega)), HI55.out.2.1.kept (Kept.of_below b (fun _ => False)) id, HI55.out.2.2.1.kept (Kept.of_below b (fun _ => False)) id, HI55.out.2.2.2.1.carry b, HI55.out.2.2.2.2.1.carry b, HI55.out.2.2.2.2.2.1.kept (Kept.of_below b (fun _ => False)) id, HI55.out.2.2.2.2.2.2.1.carry b, HI55.out.2.2.2.2.2.2.2.1.kept (Kept.of_below b (fun _ => False)) id, HI55.out.2.2.2.2.2.2.2.2.1.carry b, HI55.out.2.2.2.2.2.2.2.2.2.1.kept (Kept.of_below b (fun _ => False)) id, HI55.out.2.2.2.2.2.2.2.2.2.2.1.carry b, HI55.out.2.2.2.2.2.2.2.2.2.2.2.1.kept (Kept.of_below b (fun _ => False)) id, HI55.out.2.2.2.2.2.2.2.2.2.2.2.2.1.carry b, HI55.out.2.2.2.2.2.2.2.2.2.2.2.2.2.1.kept (Kept.of_below b (fun _ => False)) id, HI55.out.2.2.2.2.2.2.2.2.2.2.2.2.2.2.1.carry b, HI55.out.2.2.2.2.2.2.2.2.2.2.2.2.2.2.2.1.kept (Kept.of_below b (fun _ => False)) id, HI55.out.2.2.2.2.2.2.2.2.2.2.2.2.2.2.2.2.1.carry b, HI55.out.2.2.2.2.2.2.2.2.2.2.2.2.2.2.2.2.2.1.kept (Kept.of_below b (fun _ => False)) id, HI55.out.2.2.2.2.2.2.2.2.2.2.2.2.2.2.2.2.2.2.1.carry b, HI55.out.2.2.2.2.2.2.2.2.2.2.2.2.2.2.2.2.2.2.2.1.kept (Kept.of_below b (fun _ => False)) id, HI55.out.2.2.2.2.2.2.2.2.2.2.2.2.2.2.2.2.2.2.2.2.1.carry b, HI55.out.2.2.2.2.2.2.2.2.2.2.2.2.2.2.2.2.2.2.2.2.2.1.kept (Kept.of_below b (fun _ => False)) id, HI55.out.2.2.2.2.2.2.2.2.2.2.2.2.2.2.2.2.2.2.2.2.2.2.1.kept (Kept.of_below b (fun _ => False)) id, HI55.out.2.2.2.2.2.2.2.2.2.2.2.2.2.2.2.2.2.2.2.2.2.2.2.1.carry b, HI55.out.2.2.2.2.2.2.2.2.2.2.2.2.2.2.2.2.2.2.2.2.2.2.2.2.1.kept (Kept.of_below b (fun _ => False)) id, HI55.out.2.2.2.2.2.2.2.2.2.2.2.2.2.2.2.2.2.2.2.2.2.2.2.2.2.1.kept (Kept.of_below b (fun _ => False)) id, HI55.out.2.2.2.2.2.2.2.2.2.2.2.2.2.2.2.2.2.2.2.2.2.2.2.2.2.2.1.carry b, HI55.out.2.2.2.2.2.2.2.2.2.2.2.2.2.2.2.2.2.2.2.2.2.2.2.2.2.2.2.1.kept (Kept.of_below b (fun _ => False)) id, HI55.out.2.2.2.2.2.2.2.2.2.2.2.2.2.2.2.2.2.2.2.2.2.2.2.2.2.2.2.2.1.kept (Kept.of_below b (fun _ => False)) id, HI55.out.2.2.2.2.2.2.2.2.2.2.2.2.2.2.2.2.2.2.2.2.2.2.2.2.2.2.2.2.2.1.carry b, HI55.out.2.2.2.2.2.2.2.2.2.2.2.2.2.2.2.2.2.2.2.2.2.2.2.2.2.2.2.2.2.2.kept (Kept.of_below b (fun _ => False)) id⟩
      clear HI55 b
      obtain ⟨⟨x0, x1, x2, x3, x4⟩, -⟩ := Blk.fair (HI57.out.2.2.2.2.2.2.2.2.2.2.2.2.2.2.2.2.2.2.2.2.2.2.2.2.2.1)
      obtain ⟨⟨z0, z1, z2, z3, z4⟩, -⟩ := Blk.fair (HI57.out.2.2.2.2.2.2.2.2.2.2.2.2.2.2.2.2.2.2.2.2.2.2.2.2.2.2.2.2.1)
      obtain ⟨⟨d0, d1, d2, d3, d4⟩, -⟩ := Blk.five (t := ⟨p0, p1, p2, p3, p4⟩) (HI57.out.2.2.2.2.2.2.2.2.2.2.2.2.2.2.2.2.2.2.2.2.2.2.2.2.2.2.2.1)
      obtain ⟨⟨f0, f1, f2, f3, f4⟩, -⟩ := Blk.five (t := ⟨p0, p1, p2, p3, p4⟩) (HI57.out.2.2.2.2.2.2.2.2.2.2.2.2.2.2.2.2.2.2.2.2.2.2.2.2.2.2.2.2.2.2)
      have CC := C16.out X34 w56 a34 c34 a37 c37 HFS.out.2.2.2.2 (HI57.out.2.2.2.2.2.2.2.2.2.2.2.2.2.2.2.2.2.2.2.2.2.2.2.2.2.2.1) (HI57.out.2.2.2.2.2.2.2.2.2.2.2.2.2.2.2.2.2.2.2.2.2.2.2.2.2.2.2.2.2.1)
      go_wp2_with fail
      go_at_call 16
      refine CC.mono ?_
      rintro e w58 ⟨rfl, b⟩
      clear CC x0 x1 x2 x3 x4 z0 z1 z2 z3 z4 d0 d1 d2 d3 d4 f0 f1 f2 f3 f4
      have HI59 : Hd (Below A w w58 ∧ Blk w58 A 25 (faA r g nn o (.slice a n c)) ∧ Blk w58 (A + 1) 28 #[.int .i64 t0, .int .i64 t1, .int .i64 t2, .int .i64 t3, .int .i64 t4] ∧ LsR w58 a c F ∧ HnR w58 ah nh H0 ∧ Blk w58 y13 25 (faA r g nn o (.slice a13 n c13)) ∧ LsR w58 a13 c13 F ∧ Blk w58 y14 25 (faA X14.r X14.g X14.n X14.o (.slice a14 X14.F.length c14)) ∧ LsR w58 a14 c14 X14.F ∧ Blk w58 y16 25 (faA X14.r X14.g X14.n X14.o (.slice a16 X14.F.length c16)) ∧ LsR w58 a16 c16 X14.F ∧ Blk w58 y18 25 (faA X18.r X18.g X18.n X18.o (.slice a18 X18.F.length c18)) ∧ LsR w58 a18 c18 X18.F ∧ Blk w58 y20 25 (faA X18.r X18.g X18.n X18.o (.slice a20 X18.F.length c20)) ∧ LsR w58 a20 c20 X18.F ∧ Blk w58 y22 25 (faA X22.r X22.g X22.n X22.o (.slice a22 X22.F.length c22)) ∧ LsR w58 a22 c22 X22.F ∧ Blk w58 y25 25 (faA X22.r X22.g X22.n X22.o (.slice a25 X22.F.length c25)) ∧ LsR w58 a25 c25 X22.F ∧ Blk w58 y28 25 (faA X28.r X28.g X28.n X28.o (.slice a28 X28.F.length c28)) ∧ LsR w58 a28 c28 X28.F ∧ Blk w58 (y28 + 1) 28 #[.int .i64 q0, .int .i64 q1, .int .i64 q2, .int .i64 q3, .int .i64 q4] ∧ Blk w58 y31 25 (faA X28.r X28.g X28.n X28.o (.slice a31 X28.F.length c31)) ∧ LsR w58 a31 c31 X28.F ∧ Blk w58 (y31 + 1) 28 #[.int .i64 q0, .int .i64 q1, .int .i64 q2, .int .i64 q3, .int .i64 q4] ∧ Blk w58 y34 25 (faA X34.r X34.g X34.n X34.o (.slice a34 X34.F.length c34)) ∧ LsR w58 a34 c34 X34.F ∧ Blk w58 (y34 + 1) 28 #[.int .i64 p0, .int .i64 p1, .int .i64 p2, .int .i64 p3, .int .i64 p4] ∧ Blk w58 y37 25 (faA X34.r X34.g X34.n X34.o (.slice a37 X34.F.length c37)) ∧ LsR w58 a37 c37 X34.F ∧ Blk w58 (y37 + 1) 28 #[.int .i64 p0, .int .i64 p1, .int .i64 p2, .int .i64 p3, .int .i64 p4]) := ⟨HI57.out.1.trans (b.mono (by have := HI57.out.2.1.lt; omega)), HI57.out.2.1.kept (Kept.of_below b (fun _ => False)) id, HI57.out.2.2.1.kept (Kept.of_below b (fun _ => False)) id, HI57.out.2.2.2.1.carry b, HI57.out.2.2.2.2.1.carry b, HI57.out.2.2.2.2.2.1.kept (Kept.of_below b (fun _ => False)) id, HI57.out.2.2.2.2.2.2.1.carry b, HI57.out.2.2.2.2.2.2.2.1.kept (Kept.of_below b (fun _ => False)) id, HI57.out.2.2.2.2.2.2.2.2.1.carry b, HI57.out.2.2.2.2.2.2.2.2.2.1.kept (Kept.of_below b (fun _ => False)) id, HI57.out.2.2.2.2.2.2.2.2.2.2.1.carry b, HI57.out.2.2.2.2.2.2.2.2.2.2.2.1.kept (Kept.of_below b (fun _ => False)) id, HI57.out.2.2.2.2.2.2.2.2.2.2.2.2.1.carry b, HI57.out.2.2.2.2.2.2.2.2.2.2.2.2.2.1.kept (Kept.of_below b (fun _ => False)) id, HI57.out.2.2.2.2.2.2.2.2.2.2.2.2.2.2.1.carry b, HI57.out.2.2.2.2.2.2.2.2.2.2.2.2.2.2.2.1.kept (Kept.of_below b (fun _ => False)) id, HI57.out.2.2.2.2.2.2.2.2.2.2.2.2.2.2.2.2.1.carry b, HI57.out.2.2.2.2.2.2.2.2.2.2.2.2.2.2.2.2.2.1.kept (Kept.of_below b (fun _ => False)) id, HI57.out.2.2.2.2.2.2.2.2.2.2.2.2.2.2.2.2.2.2.1.carry b, HI57.out.2.2.2.2.2.2.2.2.2.2.2.2.2.2.2.2.2.2.2.1.kept (Kept.of_below b (fun _ => False)) id, HI57.out.2.2.2.2.2.2.2.2.2.2.2.2.2.2.2.2.2.2.2.2.1.carry b, HI57.out.2.2.2.2.2.2.2.2.2.2.2.2.2.2.2.2.2.2.2.2.2.1.kept (Kept.of_below b (fun _ => False)) id, HI57.out.2.2.2.2.2.2.2.2.2.2.2.2.2.2.2.2.2.2.2.2.2.2.1.kept (Kept.of_below b (fun _ => False)) id, HI57.out.2.2.2.2.2.2.2.2.2.2.2.2.2.2.2.2.2.2.2.2.2.2.2.1.carry b, HI57.out.2.2.2.2.2.2.2.2.2.2.2.2.2.2.2.2.2.2.2.2.2.2.2.2.1.kept (Kept.of_below b (fun _ => False)) id, HI57.out.2.2.2.2.2.2.2.2.2.2.2.2.2.2.2.2.2.2.2.2.2.2.2.2.2.1.kept (Kept.of_below b (fun _ => False)) id, HI57.out.2.2.2.2.2.2.2.2.2.2.2.2.2.2.2.2.2.2.2.2.2.2.2.2.2.2.1.carry b, HI57.out.2.2.2.2.2.2.2.2.2.2.2.2.2.2.2.2.2.2.2.2.2.2.2.2.2.2.2.1.kept (Kept.of_below b (fun _ => False)) id, HI57.out.2.2.2.2.2.2.2.2.2.2.2.2.2.2.2.2.2.2.2.2.2.2.2.2.2.2.2.2.1.kept (Kept.of_below b (fun _ => False)) id, HI57.out.2.2.2.2.2.2.2.2.2.2.2.2.2.2.2.2.2.2.2.2.2.2.2.2.2.2.2.2.2.1.carry b, HI57.out.2.2.2.2.2.2.2.2.2.2.2.2.2.2.2.2.2.2.2.2.2.2.2.2.2.2.2.2.2.2.kept (Kept.of_below b (fun _ => False)) id⟩
      clear HI57 b
      go_upto_region 22 with fail
      obtain ⟨⟨x0, x1, x2, x3, x4⟩, -⟩ := Blk.fair (HI59.out.2.2.2.2.2.1)
      have CC := C27.out w58 a13 c13 (HI59.out.2.2.2.2.2.2.1)
      go_wp2_with fail
      go_at_call 27
      refine CC.mono ?_
      rintro e w60 ⟨rfl, b⟩
      clear CC x0 x1 x2 x3 x4
      have HI61 : Hd (Below A w w60 ∧ Blk w60 A 25 (faA r g nn o (.slice a n c)) ∧ Blk w60 (A + 1) 28 #[.int .i64 t0, .int .i64 t1, .int .i64 t2, .int .i64 t3, .int .i64 t4] ∧ LsR w60 a c F ∧ HnR w60 ah nh H0 ∧ Blk w60 y13 25 (faA r g nn o (.slice a13 n c13)) ∧ LsR w60 a13 c13 F ∧ Blk w60 y14 25 (faA X14.r X14.g X14.n X14.o (.slice a14 X14.F.length c14)) ∧ LsR w60 a14 c14 X14.F ∧ Blk w60 y16 25 (faA X14.r X14.g X14.n X14.o (.slice a16 X14.F.length c16)) ∧ LsR w60 a16 c16 X14.F ∧ Blk w60 y18 25 (faA X18.r X18.g X18.n X18.o (.slice a18 X18.F.length c18)) ∧ LsR w60 a18 c18 X18.F ∧ Blk w60 y20 25 (faA X18.r X18.g X18.n X18.o (.slice a20 X18.F.length c20)) ∧ LsR w60 a20 c20 X18.F ∧ Blk w60 y22 25 (faA X22.r X22.g X22.n X22.o (.slice a22 X22.F.length c22)) ∧ LsR w60 a22 c22 X22.F ∧ Blk w60 y25 25 (faA X22.r X22.g X22.n X22.o (.slice a25 X22.F.length c25)) ∧ LsR w60 a25 c25 X22.F ∧ Blk w60 y28 25 (faA X28.r X28.g X28.n X28.o (.slice a28 X28.F.length c28)) ∧ LsR w60 a28 c28 X28.F ∧ Blk w60 (y28 + 1) 28 #[.int .i64 q0, .int .i64 q1, .int .i64 q2, .int .i64 q3, .int .i64 q4] ∧ Blk w60 y31 25 (faA X28.r X28.g X28.n X28.o (.slice a31 X28.F.length c31)) ∧ LsR w60 a31 c31 X28.F ∧ Blk w60 (y31 + 1) 28 #[.int .i64 q0, .int .i64 q1, .int .i64 q2, .int .i64 q3, .int .i64 q4] ∧ Blk w60 y34 25 (faA X34.r X34.g X34.n X34.o (.slice a34 X34.F.length c34)) ∧ LsR w60 a34 c34 X34.F ∧ Blk w60 (y34 + 1) 28 #[.int .i64 p0, .int .i64 p1, .int .i64 p2, .int .i64 p3, .int .i64 p4] ∧ Blk w60 y37 25 (faA X34.r X34.g X34.n X34.o (.slice a37 X34.F.length c37)) ∧ LsR w60 a37 c37 X34.F ∧ Blk w60 (y37 + 1) 28 #[.int .i64 p0, .int .i64 p1, .int .i64 p2, .int .i64 p3, .int .i64 p4]) := ⟨HI59.out.1.trans (b.mono (by have := HI59.out.2.1.lt; omega)), HI59.out.2.1.kept (Kept.of_below b (fun _ => False)) id, HI59.out.2.2.1.kept (Kept.of_below b (fun _ => False)) id, HI59.out.2.2.2.1.carry b, HI59.out.2.2.2.2.1.carry b, HI59.out.2.2.2.2.2.1.kept (Kept.of_below b (fun _ => False)) id, HI59.out.2.2.2.2.2.2.1.carry b, HI59.out.2.2.2.2.2.2.2.1.kept (Kept.of_below b (fun _ => False)) id, HI59.out.2.2.2.2.2.2.2.2.1.carry b, HI59.out.2.2.2.2.2.2.2.2.2.1.kept (Kept.of_below b (fun _ => False)) id, HI59.out.2.2.2.2.2.2.2.2.2.2.1.carry b, HI59.out.2.2.2.2.2.2.2.2.2.2.2.1.kept (Kept.of_below b (fun _ => False)) id, HI59.out.2.2.2.2.2.2.2.2.2.2.2.2.1.carry b, HI59.out.2.2.2.2.2.2.2.2.2.2.2.2.2.1.kept (Kept.of_below b (fun _ => False)) id, HI59.out.2.2.2.2.2.2.2.2.2.2.2.2.2.2.1.carry b, HI59.out.2.2.2.2.2.2.2.2.2.2.2.2.2.2.2.1.kept (Kept.of_below b (fun _ => False)) id, HI59.out.2.2.2.2.2.2.2.2.2.2.2.2.2.2.2.2.1.carry b, HI59.out.2.2.2.2.2.2.2.2.2.2.2.2.2.2.2.2.2.1.kept (Kept.of_below b (fun _ => False)) id, HI59.out.2.2.2.2.2.2.2.2.2.2.2.2.2.2.2.2.2.2.1.carry b, HI59.out.2.2.2.2.2.2.2.2.2.2.2.2.2.2.2.2.2.2.2.1.kept (Kept.of_below b (fun _ => False)) id, HI59.out.2.2.2.2.2.2.2.2.2.2.2.2.2.2.2.2.2.2.2.2.1.carry b, HI59.out.2.2.2.2.2.2.2.2.2.2.2.2.2.2.2.2.2.2.2.2.2.1.kept (Kept.of_below b (fun _ => False)) id, HI59.out.2.2.2.2.2.2.2.2.2.2.2.2.2.2.2.2.2.2.2.2.2.2.1.kept (Kept.of_below b (fun _ => False)) id, HI59.out.2.2.2.2.2.2.2.2.2.2.2.2.2.2.2.2.2.2.2.2.2.2.2.1.carry b, HI59.out.2.2.2.2.2.2.2.2.2.2.2.2.2.2.2.2.2.2.2.2.2.2.2.2.1.kept (Kept.of_below b (fun _ => False)) id, HI59.out.2.2.2.2.2.2.2.2.2.2.2.2.2.2.2.2.2.2.2.2.2.2.2.2.2.1.kept (Kept.of_below b (fun _ => False)) id, HI59.out.2.2.2.2.2.2.2.2.2.2.2.2.2.2.2.2.2.2.2.2.2.2.2.2.2.2.1.carry b, HI59.out.2.2.2.2.2.2.2.2.2.2.2.2.2.2.2.2.2.2.2.2.2.2.2.2.2.2.2.1.kept (Kept.of_below b (fun _ => False)) id, HI59.out.2.2.2.2.2.2.2.2.2.2.2.2.2.2.2.2.2.2.2.2.2.2.2.2.2.2.2.2.1.kept (Kept.of_below b (fun _ => False)) id, HI59.out.2.2.2.2.2.2.2.2.2.2.2.2.2.2.2.2.2.2.2.2.2.2.2.2.2.2.2.2.2.1.carry b, HI59.out.2.2.2.2.2.2.2.2.2.2.2.2.2.2.2.2.2.2.2.2.2.2.2.2.2.2.2.2.2.2.kept (Kept.of_below b (fun _ => False)) id⟩
      clear HI59 b
      go_upto_region 23 with fail
      obtain ⟨⟨x0, x1, x2, x3, x4⟩, -⟩ := Blk.fair (HI61.out.2.1)
      have CC := C28.out w60 a c (HI61.out.2.2.2.1)
      go_wp2_with fail
      go_at_call 28
      refine CC.mono ?_
      rintro e w62 ⟨rfl, b⟩
      clear CC x0 x1 x2 x3 x4
      have HI63 : Hd (Below A w w62 ∧ Blk w62 A 25 (faA r g nn o (.slice a n c)) ∧ Blk w62 (A + 1) 28 #[.int .i64 t0, .int .i64 t1, .int .i64 t2, .int .i64 t3, .int .i64 t4] ∧ LsR w62 a c F ∧ HnR w62 ah nh H0 ∧ Blk w62 y13 25 (faA r g nn o (.slice a13 n c13)) ∧ LsR w62 a13 c13 F ∧ Blk w62 y14 25 (faA X14.r X14.g X14.n X14.o (.slice a14 X14.F.length c14)) ∧ LsR w62 a14 c14 X14.F ∧ Blk w62 y16 25 (faA X14.r X14.g X14.n X14.o (.slice a16 X14.F.length c16)) ∧ LsR w62 a16 c16 X14.F ∧ Blk w62 y18 25 (faA X18.r X18.g X18.n X18.o (.slice a18 X18.F.length c18)) ∧ LsR w62 a18 c18 X18.F ∧ Blk w62 y20 25 (faA X18.r X18.g X18.n X18.o (.slice a20 X18.F.length c20)) ∧ LsR w62 a20 c20 X18.F ∧ Blk w62 y22 25 (faA X22.r X22.g X22.n X22.o (.slice a22 X22.F.length c22)) ∧ LsR w62 a22 c22 X22.F ∧ Blk w62 y25 25 (faA X22.r X22.g X22.n X22.o (.slice a25 X22.F.length c25)) ∧ LsR w62 a25 c25 X22.F ∧ Blk w62 y28 25 (faA X28.r X28.g X28.n X28.o (.slice a28 X28.F.length c28)) ∧ LsR w62 a28 c28 X28.F ∧ Blk w62 (y28 + 1) 28 #[.int .i64 q0, .int .i64 q1, .int .i64 q2, .int .i64 q3, .int .i64 q4] ∧ Blk w62 y31 25 (faA X28.r X28.g X28.n X28.o (.slice a31 X28.F.length c31)) ∧ LsR w62 a31 c31 X28.F ∧ Blk w62 (y31 + 1) 28 #[.int .i64 q0, .int .i64 q1, .int .i64 q2, .int .i64 q3, .int .i64 q4] ∧ Blk w62 y34 25 (faA X34.r X34.g X34.n X34.o (.slice a34 X34.F.length c34)) ∧ LsR w62 a34 c34 X34.F ∧ Blk w62 (y34 + 1) 28 #[.int .i64 p0, .int .i64 p1, .int .i64 p2, .int .i64 p3, .int .i64 p4] ∧ Blk w62 y37 25 (faA X34.r X34.g X34.n X34.o (.slice a37 X34.F.length c37)) ∧ LsR w62 a37 c37 X34.F ∧ Blk w62 (y37 + 1) 28 #[.int .i64 p0, .int .i64 p1, .int .i64 p2, .int .i64 p3, .int .i64 p4]) := ⟨HI61.out.1.trans (b.mono (by have := HI61.out.2.1.lt; omega)), HI61.out.2.1.kept (Kept.of_below b (fun _ => False)) id, HI61.out.2.2.1.kept (Kept.of_below b (fun _ => False)) id, HI61.out.2.2.2.1.carry b, HI61.out.2.2.2.2.1.carry b, HI61.out.2.2.2.2.2.1.kept (Kept.of_below b (fun _ => False)) id, HI61.out.2.2.2.2.2.2.1.carry b, HI61.out.2.2.2.2.2.2.2.1.kept (Kept.of_below b (fun _ => False)) id, HI61.out.2.2.2.2.2.2.2.2.1.carry b, HI61.out.2.2.2.2.2.2.2.2.2.1.kept (Kept.of_below b (fun _ => False)) id, HI61.out.2.2.2.2.2.2.2.2.2.2.1.carry b, HI61.out.2.2.2.2.2.2.2.2.2.2.2.1.kept (Kept.of_below b (fun _ => False)) id, HI61.out.2.2.2.2.2.2.2.2.2.2.2.2.1.carry b, HI61.out.2.2.2.2.2.2.2.2.2.2.2.2.2.1.kept (Kept.of_below b (fun _ => False)) id, HI61.out.2.2.2.2.2.2.2.2.2.2.2.2.2.2.1.carry b, HI61.out.2.2.2.2.2.2.2.2.2.2.2.2.2.2.2.1.kept (Kept.of_below b (fun _ => False)) id, HI61.out.2.2.2.2.2.2.2.2.2.2.2.2.2.2.2.2.1.carry b, HI61.out.2.2.2.2.2.2.2.2.2.2.2.2.2.2.2.2.2.1.kept (Kept.of_below b (fun _ => False)) id, HI61.out.2.2.2.2.2.2.2.2.2.2.2.2.2.2.2.2.2.2.1.carry b, HI61.out.2.2.2.2.2.2.2.2.2.2.2.2.2.2.2.2.2.2.2.1.kept (Kept.of_below b (fun _ => False)) id, HI61.out.2.2.2.2.2.2.2.2.2.2.2.2.2.2.2.2.2.2.2.2.1.carry b, HI61.out.2.2.2.2.2.2.2.2.2.2.2.2.2.2.2.2.2.2.2.2.2.1.kept (Kept.of_below b (fun _ => False)) id, HI61.out.2.2.2.2.2.2.2.2.2.2.2.2.2.2.2.2.2.2.2.2.2.2.1.kept (Kept.of_below b (fun _ => False)) id, HI61.out.2.2.2.2.2.2.2.2.2.2.2.2.2.2.2.2.2.2.2.2.2.2.2.1.carry b, HI61.out.2.2.2.2.2.2.2.2.2.2.2.2.2.2.2.2.2.2.2.2.2.2.2.2.1.kept (Kept.of_below b (fun _ => False)) id, HI61.out.2.2.2.2.2.2.2.2.2.2.2.2.2.2.2.2.2.2.2.2.2.2.2.2.2.1.kept (Kept.of_below b (fun _ => False)) id, HI61.out.2.2.2.2.2.2.2.2.2.2.2.2.2.2.2.2.2.2.2.2.2.2.2.2.2.2.1.carry b, HI61.out.2.2.2.2.2.2.2.2.2.2.2.2.2.2.2.2.2.2.2.2.2.2.2.2.2.2.2.1.kept (Kept.of_below b (fun _ => False)) id, HI61.out.2.2.2.2.2.2.2.2.2.2.2.2.2.2.2.2.2.2.2.2.2.2.2.2.2.2.2.2.1.kept (Kept.of_below b (fun _ => False)) id, HI61.out.2.2.2.2.2.2.2.2.2.2.2.2.2.2.2.2.2.2.2.2.2.2.2.2.2.2.2.2.2.1.carry b, HI61.out.2.2.2.2.2.2.2.2.2.2.2.2.2.2.2.2.2.2.2.2.2.2.2.2.2.2.2.2.2.2.kept (Kept.of_below b (fun _ => False)) id⟩
      clear HI61 b
      go_upto_region 24 with fail
      refine AnyG.start (T := fun Y => Below w62.drew.heap.size w62.drew Y) (U := fun _ => True) (j0 := 100) (by kernel_rfl) ?_
      obtain ⟨w64, hw64⟩ : ∃ w64, w64 = w62.drew := ⟨_, rfl⟩
      have BD : Below w62.heap.size w62 w64 := by rw [hw64]; exact (Below.refl _ _).drew
      rw [← hw64]
      have HG65 : Hd (∀ Y, Below w64.heap.size w64 Y → Below A w Y ∧ Blk Y A 25 (faA r g nn o (.slice a n c)) ∧ Blk Y (A + 1) 28 #[.int .i64 t0, .int .i64 t1, .int .i64 t2, .int .i64 t3, .int .i64 t4] ∧ LsR Y a c F ∧ HnR Y ah nh H0 ∧ Blk Y y13 25 (faA r g nn o (.slice a13 n c13)) ∧ LsR Y a13 c13 F ∧ Blk Y y14 25 (faA X14.r X14.g X14.n X14.o (.slice a14 X14.F.length c14)) ∧ LsR Y a14 c14 X14.F ∧ Blk Y y16 25 (faA X14.r X14.g X14.n X14.o (.slice a16 X14.F.length c16)) ∧ LsR Y a16 c16 X14.F ∧ Blk Y y18 25 (faA X18.r X18.g X18.n X18.o (.slice a18 X18.F.length c18)) ∧ LsR Y a18 c18 X18.F ∧ Blk Y y20 25 (faA X18.r X18.g X18.n X18.o (.slice a20 X18.F.length c20)) ∧ LsR Y a20 c20 X18.F ∧ Blk Y y22 25 (faA X22.r X22.g X22.n X22.o (.slice a22 X22.F.length c22)) ∧ LsR Y a22 c22 X22.F ∧ Blk Y y25 25 (faA X22.r X22.g X22.n X22.o (.slice a25 X22.F.length c25)) ∧ LsR Y a25 c25 X22.F ∧ Blk Y y28 25 (faA X28.r X28.g X28.n X28.o (.slice a28 X28.F.length c28)) ∧ LsR Y a28 c28 X28.F ∧ Blk Y (y28 + 1) 28 #[.int .i64 q0, .int .i64 q1, .int .i64 q2, .int .i64 q3, .int .i64 q4] ∧ Blk Y y31 25 (faA X28.r X28.g X28.n X28.o (.slice a31 X28.F.length c31)) ∧ LsR Y a31 c31 X28.F ∧ Blk Y (y31 + 1) 28 #[.int .i64 q0, .int .i64 q1, .int .i64 q2, .int .i64 q3, .int .i64 q4] ∧ Blk Y y34 25 (faA X34.r X34.g X34.n X34.o (.slice a34 X34.F.length c34)) ∧ LsR Y a34 c34 X34.F ∧ Blk Y (y34 + 1) 28 #[.int .i64 p0, .int .i64 p1, .int .i64 p2, .int .i64 p3, .int .i64 p4] ∧ Blk Y y37 25 (faA X34.r X34.g X34.n X34.o (.slice a37 X34.F.length c37)) ∧ LsR Y a37 c37 X34.F ∧ Blk Y (y37 + 1) 28 #[.int .i64 p0, .int .i64 p1, .int .i64 p2, .int .i64 p3, .int .i64 p4]) := ⟨fun Y q => by
        have qq := BD.trans (q.mono BD.size)
        exact ⟨HI63.out.1.trans (qq.mono (by have := HI63.out.2.1.lt; omega)), HI63.out.2.1.kept (Kept.of_below qq (fun _ => False)) id, HI63.out.2.2.1.kept (Kept.of_below qq (fun _ => False)) id, HI63.out.2.2.2.1.carry qq, HI63.out.2.2.2.2.1.carry qq, HI63.out.2.2.2.2.2.1.kept (Kept.of_below qq (fun _ => False)) id, HI63.out.2.2.2.2.2.2.1.carry qq, HI63.out.2.2.2.2.2.2.2.1.kept (Kept.of_below qq (fun _ => False)) id, HI63.out.2.2.2.2.2.2.2.2.1.carry qq, HI63.out.2.2.2.2.2.2.2.2.2.1.kept (Kept.of_below qq (fun _ => False)) id, HI63.out.2.2.2.2.2.2.2.2.2.2.1.carry qq, HI63.out.2.2.2.2.2.2.2.2.2.2.2.1.kept (Kept.of_below qq (fun _ => False)) id, HI63.out.2.2.2.2.2.2.2.2.2.2.2.2.1.carry qq, HI63.out.2.2.2.2.2.2.2.2.2.2.2.2.2.1.kept (Kept.of_below qq (fun _ => False)) id, HI63.out.2.2.2.2.2.2.2.2.2.2.2.2.2.2.1.carry qq, HI63.out.2.2.2.2.2.2.2.2.2.2.2.2.2.2.2.1.kept (Kept.of_below qq (fun _ => False)) id, HI63.out.2.2.2.2.2.2.2.2.2.2.2.2.2.2.2.2.1.carry qq, HI63.out.2.2.2.2.2.2.2.2.2.2.2.2.2.2.2.2.2.1.kept (Kept.of_below qq (fun _ => False)) id, HI63.out.2.2.2.2.2.2.2.2.2.2.2.2.2.2.2.2.2.2.1.carry qq, HI63.out.2.2.2.2.2.2.2.2.2.2.2.2.2.2.2.2.2.2.2.1.kept (Kept.of_below qq (fun _ => False)) id, HI63.out.2.2.2.2.2.2.2.2.2.2.2.2.2.2.2.2.2.2.2.2.1.carry qq, HI63.out.2.2.2.2.2.2.2.2.2.2.2.2.2.2.2.2.2.2.2.2.2.1.kept (Kept.of_below qq (fun _ => False)) id, HI63.out.2.2.2.2.2.2.2.2.2.2.2.2.2.2.2.2.2.2.2.2.2.2.1.kept (Kept.of_below qq (fun _ => False)) id, HI63.out.2.2.2.2.2.2.2.2.2.2.2.2.2.2.2.2.2.2.2.2.2.2.2.1.carry qq, HI63.out.2.2.2.2.2.2.2.2.2.2.2.2.2.2.2.2.2.2.2.2.2.2.2.2.1.kept (Kept.of_below qq (fun _ => False)) id, HI63.out.2.2.2.2.2.2.2.2.2.2.2.2.2.2.2.2.2.2.2.2.2.2.2.2.2.1.kept (Kept.of_below qq (fun _ => False)) id, HI63.out.2.2.2.2.2.2.2.2.2.2.2.2.2.2.2.2.2.2.2.2.2.2.2.2.2.2.1.carry qq, HI63.out.2.2.2.2.2.2.2.2.2.2.2.2.2.2.2.2.2.2.2.2.2.2.2.2.2.2.2.1.kept (Kept.of_below qq (fun _ => False)) id, HI63.out.2.2.2.2.2.2.2.2.2.2.2.2.2.2.2.2.2.2.2.2.2.2.2.2.2.2.2.2.1.kept (Kept.of_below qq (fun _ => False)) id, HI63.out.2.2.2.2.2.2.2.2.2.2.2.2.2.2.2.2.2.2.2.2.2.2.2.2.2.2.2.2.2.1.carry qq, HI63.out.2.2.2.2.2.2.2.2.2.2.2.2.2.2.2.2.2.2.2.2.2.2.2.2.2.2.2.2.2.2.kept (Kept.of_below qq (fun _ => False)) id⟩⟩
      clear BD hw64 HI63
      have R : Below w64.heap.size w64 w64 := Below.refl _ _
      refine .tq 0 221 R ?_; simp only [oqA, oqB, oqC]
      refine .tq 1 222 R ?_; simp only [oqA, oqB, oqC]
      refine .tq (v := .bool true) 2 223 R ?_ (hy := fun w hSw => by go_simp); simp only [oqA, oqB, oqC]
      refine .tq 3 224 R ?_; simp only [oqA, oqB, oqC]
      refine .tq 4 225 R ?_; simp only [oqA, oqB, oqC]
      refine .tq 5 226 R ?_; simp only [oqA, oqB, oqC]
      refine .tq (v := .bool true) 6 227 R ?_ (hy := fun w hSw => by go_simp); simp only [oqA, oqB, oqC]
      refine .tq 7 228 R ?_; simp only [oqA, oqB, oqC]
      refine .tq 8 229 R ?_; simp only [oqA, oqB, oqC]
      refine .tq 9 230 R ?_ (hy := fun w hSw => by have s := ((HG65.out w hSw).2.2.2.2.2.1).fair.1; go_simp; rfl); simp only [oqA, oqB, oqC]
      refine .tq 11 232 R ?_ (hy := fun w hSw => by have s := ((HG65.out w hSw).2.1).fair.1; go_simp; rfl); simp only [oqA, oqB, oqC]
      have CC := C29.out w64 a13 c13 ((HG65.out w64 R).2.2.2.2.2.2.1)
      refine AnyG.ready (rs := [10]) (by kernel_rfl) (by simp) ?_
      refine AllG.cons rfl (fun K hK => ?_) AllG.nil
      go_simp
      refine CC.mono ?_
      rintro e w66 ⟨rfl, b⟩
      have R67 : Below w64.heap.size w64 w66 := R.trans (b.mono R.size)
      refine hK.out _ _ ⟨R67, fun _ => trivial⟩ ?_
      clear hK K CC b
      have CC := C30.out w66 a c ((HG65.out w66 R67).2.2.2.1)
      refine AnyG.ready (rs := [12]) (by kernel_rfl) (by simp) ?_
      refine AllG.cons rfl (fun K hK => ?_) AllG.nil
      go_simp
      refine CC.mono ?_
      rintro e w68 ⟨rfl, b⟩
      have R69 : Below w64.heap.size w64 w68 := R67.trans (b.mono R67.size)
      refine hK.out _ _ ⟨R69, fun _ => trivial⟩ ?_
      clear hK K CC b
      refine .tq (v := .bool true) 13 234 R69 ?_ (hy := fun w hSw => by go_simp); simp only [oqA, oqB, oqC]
      refine .tq 14 235 R69 ?_; simp only [oqA, oqB, oqC]
      refine .tq 15 236 R69 ?_; simp only [oqA, oqB, oqC]
      refine .tq 16 237 R69 ?_ (hy := fun w hSw => by have s := ((HG65.out w hSw).2.2.2.2.2.1).fair.1; go_simp; rfl); simp only [oqA, oqB, oqC]
      refine .tq 18 239 R69 ?_ (hy := fun w hSw => by have s := ((HG65.out w hSw).2.1).fair.1; go_simp; rfl); simp only [oqA, oqB, oqC]
      have CC := C31.out w68 a13 c13 ((HG65.out w68 R69).2.2.2.2.2.2.1)
      refine AnyG.ready (rs := [17]) (by kernel_rfl) (by simp) ?_
      refine AllG.cons rfl (fun K hK => ?_) AllG.nil
      go_simp
      refine CC.mono ?_
      rintro e w70 ⟨rfl, b⟩
      have R71 : Below w64.heap.size w64 w70 := R69.trans (b.mono R69.size)
      refine hK.out _ _ ⟨R71, fun _ => trivial⟩ ?_
      clear hK K CC b
      have CC := C32.out w70 a c ((HG65.out w70 R71).2.2.2.1)
      refine AnyG.ready (rs := [19]) (by kernel_rfl) (by simp) ?_
      refine AllG.cons rfl (fun K hK => ?_) AllG.nil
      go_simp
      refine CC.mono ?_
      rintro e w72 ⟨rfl, b⟩
      have R73 : Below w64.heap.size w64 w72 := R71.trans (b.mono R71.size)
      refine hK.out _ _ ⟨R73, fun _ => trivial⟩ ?_
      clear hK K CC b
      refine .tq (v := .bool true) 20 241 R73 ?_ (hy := fun w hSw => by go_simp); simp only [oqA, oqB, oqC]
      refine .tq 21 242 R73 ?_; simp only [oqA, oqB, oqC]
      refine .tq 22 243 R73 ?_; simp only [oqA, oqB, oqC]
      refine .tq 23 244 R73 ?_ (hy := fun w hSw => by have s := ((HG65.out w hSw).2.2.2.2.2.1).fair.1; go_simp; rfl); simp only [oqA, oqB, oqC]
      refine .tq 24 245 R73 ?_ (hy := fun w hSw => by have s := ((HG65.out w hSw).2.1).fair.1; go_simp; rfl); simp only [oqA, oqB, oqC]
      have CC := CF.out w72 a13 c13 a c ((HG65.out w72 R73).2.2.2.2.2.2.1) ((HG65.out w72 R73).2.2.2.1)
      refine AnyG.ready (rs := [25]) (by kernel_rfl) (by simp) ?_
      refine AllG.cons rfl (fun K hK => ?_) AllG.nil
      go_simp
      refine CC.mono ?_
      rintro e w74 ⟨rfl, b⟩
      have R75 : Below w64.heap.size w64 w74 := R73.trans (b.mono R73.size)
      refine hK.out _ _ ⟨R75, fun _ => trivial⟩ ?_
      clear hK K CC b
      refine .tq 26 247 R75 ?_; simp only [oqA, oqB, oqC]
      refine .tq 27 12 R75 ?_; simp only [oqA, oqB, oqC]
      refine AnyG.done (by kernel_rfl) ?_ _
      have HI76 : Hd (Below A w w74 ∧ Blk w74 A 25 (faA r g nn o (.slice a n c)) ∧ Blk w74 (A + 1) 28 #[.int .i64 t0, .int .i64 t1, .int .i64 t2, .int .i64 t3, .int .i64 t4] ∧ LsR w74 a c F ∧ HnR w74 ah nh H0 ∧ Blk w74 y13 25 (faA r g nn o (.slice a13 n c13)) ∧ LsR w74 a13 c13 F ∧ Blk w74 y14 25 (faA X14.r X14.g X14.n X14.o (.slice a14 X14.F.length c14)) ∧ LsR w74 a14 c14 X14.F ∧ Blk w74 y16 25 (faA X14.r X14.g X14.n X14.o (.slice a16 X14.F.length c16)) ∧ LsR w74 a16 c16 X14.F ∧ Blk w74 y18 25 (faA X18.r X18.g X18.n X18.o (.slice a18 X18.F.length c18)) ∧ LsR w74 a18 c18 X18.F ∧ Blk w74 y20 25 (faA X18.r X18.g X18.n X18.o (.slice a20 X18.F.length c20)) ∧ LsR w74 a20 c20 X18.F ∧ Blk w74 y22 25 (faA X22.r X22.g X22.n X22.o (.slice a22 X22.F.length c22)) ∧ LsR w74 a22 c22 X22.F ∧ Blk w74 y25 25 (faA X22.r X22.g X22.n X22.o (.slice a25 X22.F.length c25)) ∧ LsR w74 a25 c25 X22.F ∧ Blk w74 y28 25 (faA X28.r X28.g X28.n X28.o (.slice a28 X28.F.length c28)) ∧ LsR w74 a28 c28 X28.F ∧ Blk w74 (y28 + 1) 28 #[.int .i64 q0, .int .i64 q1, .int .i64 q2, .int .i64 q3, .int .i64 q4] ∧ Blk w74 y31 25 (faA X28.r X28.g X28.n X28.o (.slice a31 X28.F.length c31)) ∧ LsR w74 a31 c31 X28.F ∧ Blk w74 (y31 + 1) 28 #[.int .i64 q0, .int .i64 q1, .int .i64 q2, .int .i64 q3, .int .i64 q4] ∧ Blk w74 y34 25 (faA X34.r X34.g X34.n X34.o (.slice a34 X34.F.length c34)) ∧ LsR w74 a34 c34 X34.F ∧ Blk w74 (y34 + 1) 28 #[.int .i64 p0, .int .i64 p1, .int .i64 p2, .int .i64 p3, .int .i64 p4] ∧ Blk w74 y37 25 (faA X34.r X34.g X34.n X34.o (.slice a37 X34.F.length c37)) ∧ LsR w74 a37 c37 X34.F ∧ Blk w74 (y37 + 1) 28 #[.int .i64 p0, .int .i64 p1, .int .i64 p2, .int .i64 p3, .int .i64 p4]) := ⟨HG65.out w74 R75⟩
      clear HG65 R R67 R69 R71 R73 R75
      go_wp2_with fail
      go_ret
      exact ⟨rfl, by rw [← HA.out]; exact HI76.out.1⟩
    · have hbig' : (100 : Int) < (nh : Int) := by omega
      go_wp2_with fail
      go_ret
      exact ⟨rfl, by rw [← HA.out]; exact H3.out.1⟩
end Go.Proofs.Ytemmkkcfjhmomaa
