/-
  What 'Write' of the program answers. Conditions: the event isn't too great, its groups and the table of powers lie in memory.
-/
import Derived.Test.YtooaojegdhamjaaDoorEvK
namespace Go.Proofs.YtooaojegdhamjaaDoor
open Go.RowKit Go.Lib

theorem lnE_len {w : World} {e : Ev} {a : Option Addr} {c : Nat} (h : EvR w e a c) : (lnE e).size ≤ 400000 := by
  have hu := h.sz.1
  have hv := h.sz.2.1
  have hr := h.sz.2.2.1
  have hs := spW_len h.sz.2.2.2.1
  have ht := h.sz.2.2.2.2
  have d1 := digB_len e.i h.nm.2.1.2
  have d2 := digB_len e.n h.nm.2.2.1.2
  have d3 := digB_len e.o h.nm.2.2.2.2
  have dj := joinB_len e.g
  have c1 : wNew.size = 3 := rfl
  have c2 : wDone.size = 4 := rfl
  have c3 : wDrop.size = 4 := rfl
  have c4 : wTick.size = 4 := rfl
  have c5 : wLoad.size = 4 := rfl
  unfold Sz at hu hv hr ht
  unfold lnE
  by_cases h1 : e.k = 1
  · rw [if_pos h1]
    unfold rqE
    rw [jn_size, jn_size, jn_one, jn_size, jn_size, jn_size, jn_size, jn_size, jn_one]
    omega
  rw [if_neg h1]
  by_cases h2 : e.k = 2
  · rw [if_pos h2, jn_size, jn_one]; omega
  rw [if_neg h2]
  by_cases h3 : e.k = 3
  · rw [if_pos h3, jn_size, jn_one]; omega
  rw [if_neg h3]
  by_cases h4 : e.k = 4
  · rw [if_pos h4, jn_size, jn_one]; omega
  rw [if_neg h4]
  by_cases h5 : e.k = 5
  · rw [if_pos h5]
    unfold loadL
    by_cases h0 : e.t = tx0
    · rw [if_pos h0]; omega
    · rw [if_neg h0, jn_size, jn_one, ← size_list (mk _), mk_list, mpL_len, size_list]; omega
  rw [if_neg h5]
  decide

theorem listOf_few (s : ByteArray) : (listOf s).length ≤ 8 ∧ ∀ x ∈ listOf s, x.size ≤ 64 := by
  unfold listOf
  by_cases h1 : s = mk [45]
  · rw [if_pos h1]; exact ⟨by simp, fun x hx => by simp at hx⟩
  rw [if_neg h1]
  by_cases h2 : s = mk [42]
  · rw [if_pos h2]; exact ⟨by simp, fun x hx => by rw [List.mem_singleton] at hx; rw [hx]; decide⟩
  rw [if_neg h2]
  cases hg : good (cutB 44 s) with
  | false => rw [if_neg (by decide)]; exact ⟨by simp, fun x hx => by simp at hx⟩
  | true =>
    rw [if_pos rfl]
    have h := good_iff.1 hg
    exact ⟨h.1, fun x hx => word_short (good_words h x hx)⟩
theorem rdE_g (l : List UInt8) : (rdE l).g = [] ∨ ∃ s, (rdE l).g = listOf s := by
  unfold rdE
  by_cases h1 : mk (fsL l) = wLoad
  · rw [if_pos h1]; exact .inl rfl
  rw [if_neg h1]
  unfold gate
  by_cases h2 : evX (mk (fsL l)) ((wordsL (rsL l)).map mk) = 0
  · rw [if_pos h2]
    unfold evE
    by_cases a1 : mk (fsL l) = wNew
    · rw [if_pos a1]; exact .inr ⟨_, rfl⟩
    rw [if_neg a1]
    by_cases a2 : mk (fsL l) = wDone
    · rw [if_pos a2]; exact .inl rfl
    rw [if_neg a2]
    by_cases a3 : mk (fsL l) = wDrop
    · rw [if_pos a3]; exact .inl rfl
    rw [if_neg a3]
    by_cases a4 : mk (fsL l) = wTick
    · rw [if_pos a4]; exact .inl rfl
    rw [if_neg a4]; exact .inl rfl
  · rw [if_neg h2]; exact .inl rfl
theorem rd_few (l : List UInt8) : (rdE l).g.length ≤ 8 ∧ ∀ x ∈ (rdE l).g, x.size ≤ 64 := by
  rcases rdE_g l with h | ⟨s, h⟩
  · rw [h]; exact ⟨by simp, fun x hx => by simp at hx⟩
  · rw [h]; exact listOf_few s

def WriteP (w : World) (e : Ev) : Ending → World → Prop := fun q w' => q = .returned (.tuple #[.string (wrT e), .int .i64 (wrX e)]) ∧ Below w.heap.size w w'
set_option maxHeartbeats 2000000 in
theorem write_ok (e : Ev) (a : Option Addr) (c : Nat) (w : World) (h : EvR w e a c) (hT : Tab w) : Calls Tryd.prog 8 #[evV e a c] w (WriteP w e) := by
  unfold WriteP
  obtain ⟨w1, hw1⟩ : ∃ w1, w1 = w.alloc (.cells #[.int .i64 e.k, .int .i64 e.i, .int .i64 e.n, .string e.u, .slice a e.g.length c, .string e.v, .string e.r, .string e.s, .int .i64 e.o, .string e.t] 26) := ⟨_, rfl⟩
  have B1 : Below w.heap.size w w1 := by rw [hw1]; exact alloc_below _ _
  have N1 : Blk w1 w.heap.size 26 #[.int .i64 e.k, .int .i64 e.i, .int .i64 e.n, .string e.u, .slice a e.g.length c, .string e.v, .string e.r, .string e.s, .int .i64 e.o, .string e.t] := by rw [hw1]; exact Blk.new _ _ _
  have HB : Hd (∀ W, Below w1.heap.size w1 W → Below w.heap.size w W) := ⟨fun W b => B1.trans (b.mono B1.size)⟩
  have X : Hd (∀ W, Below w1.heap.size w1 W → Blk W w.heap.size 26 #[.int .i64 e.k, .int .i64 e.i, .int .i64 e.n, .string e.u, .slice a e.g.length c, .string e.v, .string e.r, .string e.s, .int .i64 e.o, .string e.t]) := ⟨fun W b => N1.kept (Kept.of_below b (fun _ => False)) id⟩
  have HW := Hd.mk (write_any e a c w1 (h.below B1) (hT.stays B1))
  have hlen := lnE_len h
  have HR := Hd.mk (fun v => read_ok (lnE e) v (by omega))
  have HS : Hd (∀ W, Below w1.heap.size w1 W → RowL W a e.g) := ⟨fun W b => h.row.carry (HB.out W b)⟩
  have HT : Hd (wrT e = (if rdX (lnE e).data.toList = 0 ∧ smE (rdE (lnE e).data.toList) e = true then lnE e else tx0) ∧ wrX e = (if rdX (lnE e).data.toList = 0 ∧ smE (rdE (lnE e).data.toList) e = true then 0 else 2)) := ⟨by
    unfold wrT wrX wrK
    by_cases h1 : rdX (lnE e).data.toList = 0 <;> by_cases h2 : smE (rdE (lnE e).data.toList) e = true <;> simp [h1, h2]⟩
  have HM : Hd (e.g.length ≤ 9223372036854775807) := ⟨h.ln⟩
  unfold ReadP at HR
  unfold LineP at HW
  clear B1 N1 h hT hlen
  generalize wrT e = yT at *
  generalize wrX e = yX at *
  generalize lnE e = ln at *
  obtain ⟨⟨r0, r1, r2, r3, r4, r5, r6, r7, r8, r9⟩, -⟩ := (X.out w1 (Below.refl _ _)).ten
  have HSM : Hd (∀ b d W, RowL W b (rdE ln.data.toList).g → Below w1.heap.size w1 W → Calls Tryd.prog 13 #[evV (rdE ln.data.toList) b d, evV e a c] W fun q w' => q = .returned (.bool (smE (rdE ln.data.toList) e)) ∧ Below W.heap.size W w') := ⟨fun b d W hr hb => same_ok _ e b a d c W hr (HS.out W hb) (by have := (rd_few ln.data.toList).1; omega)⟩
  have HP : Hd (∀ v, Calls Tryd.prog 9 #[.string ln] v fun q w' => ∃ b d, q = .returned (.tuple #[evV (rdE ln.data.toList) b d, .int .i64 (rdX ln.data.toList)]) ∧ (RowL w' b (rdE ln.data.toList).g ∧ (rdE ln.data.toList).g.length ≤ d) ∧ Below v.heap.size v w') := ⟨HR.out⟩
  clear HR HS
  generalize rdX ln.data.toList = xx at *
  generalize rdE ln.data.toList = E at *
  generalize hsm : smE E e = sm at *
  clear hsm
  have HK : Hd (evV e a c = .agg #[.int .i64 e.k, .int .i64 e.i, .int .i64 e.n, .string e.u, .slice a e.g.length c, .string e.v, .string e.r, .string e.s, .int .i64 e.o, .string e.t]) := ⟨rfl⟩
  unfold evV evA at *
  generalize e.g.length = m at *
  generalize hn : E.g.length = n at *
  generalize hg : w.heap.size = g at *
  have HG := Hd.mk hg
  go_enter Tryd.func8, Tryd.ntmps8
  go_upto_region 1 with fail
  rw [← hw1]
  clear hw1
  go_wp2_with fail
  go_at_call 12
  refine HW.out.mono ?_
  rintro q w2 ⟨rfl, b2⟩
  have B2 := Hd.mk b2
  clear b2
  go_wp2_with fail
  go_at_call 9
  refine (HP.out w2).mono ?_
  rintro q w3 ⟨b, d, rfl, ⟨hr3, -⟩, b3⟩
  have B3 := Hd.mk (B2.out.trans (b3.mono B2.out.size))
  have R3 := Hd.mk hr3
  clear hr3 b3
  obtain ⟨w4, hw4⟩ : ∃ w4, w4 = w3.alloc (.cells #[.int .i64 E.k, .int .i64 E.i, .int .i64 E.n, .string E.u, .slice b n d, .string E.v, .string E.r, .string E.s, .int .i64 E.o, .string E.t] 26) := ⟨_, rfl⟩
  have b4 : Below w3.heap.size w3 w4 := by rw [hw4]; exact alloc_below _ _
  have n4 : Blk w4 w3.heap.size 26 #[.int .i64 E.k, .int .i64 E.i, .int .i64 E.n, .string E.u, .slice b n d, .string E.v, .string E.r, .string E.s, .int .i64 E.o, .string E.t] := by rw [hw4]; exact Blk.new _ _ _
  have B4 := Hd.mk (B3.out.trans (b4.mono B3.out.size))
  have R4 := Hd.mk (R3.out.carry b4)
  have X4 := X.out w4 B4.out
  obtain ⟨⟨p0, p1, p2, p3, p4, p5, p6, p7, p8, p9⟩, -⟩ := n4.ten
  obtain ⟨⟨s0, s1, s2, s3, s4, s5, s6, s7, s8, s9⟩, -⟩ := X4.ten
  have M4 := Hd.mk (HSM.out b d w4 R4.out B4.out)
  clear n4 X4 b4 HSM X hn
  go_upto_region 3 with fail
  rw [← hw4]
  clear hw4
  by_cases hX : xx = 0
  · subst hX
    cases sm with
    | true =>
      have y1 : yT = ln := by rw [HT.out.1, if_pos ⟨rfl, rfl⟩]
      have y2 : yX = 0 := by rw [HT.out.2, if_pos ⟨rfl, rfl⟩]
      subst y1 y2
      clear HT
      go_wp2_with (go_at_call 13; refine M4.out.mono ?_; rintro q w5 ⟨rfl, b5⟩)
      go_ret2
      exact ⟨rfl, by first | exact HB.out _ (B4.out.trans (b5.mono B4.out.size)) | (rw [HG.out]; exact HB.out _ (B4.out.trans (b5.mono B4.out.size)))⟩
    | false =>
      have y1 : yT = ⟨#[]⟩ := by rw [HT.out.1, if_neg (fun h => by cases h.2)]; rfl
      have y2 : yX = 2 := by rw [HT.out.2, if_neg (fun h => by cases h.2)]
      subst y1 y2
      clear HT
      go_wp2_with (go_at_call 13; refine M4.out.mono ?_; rintro q w5 ⟨rfl, b5⟩)
      go_ret2
      exact ⟨rfl, by first | exact HB.out _ (B4.out.trans (b5.mono B4.out.size)) | (rw [HG.out]; exact HB.out _ (B4.out.trans (b5.mono B4.out.size)))⟩
  · have y1 : yT = ⟨#[]⟩ := by rw [HT.out.1, if_neg (fun h => hX h.1)]; rfl
    have y2 : yX = 2 := by rw [HT.out.2, if_neg (fun h => hX h.1)]
    have dX : (xx != 0) = true := by simpa using hX
    subst y1 y2
    clear HT hX
    go_wp2_with fail
    go_ret2
    exact ⟨rfl, by first | exact HB.out _ B4.out | (rw [HG.out]; exact HB.out _ B4.out)⟩
end Go.Proofs.YtooaojegdhamjaaDoor
