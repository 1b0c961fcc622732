/-
  The walk of 'EventOne'. Conditions: the text has a length that fits its type, the table of powers lies in memory.
-/
import Derived.Test.YtooaojegdhamjaaDoorEvU
namespace Go.Proofs.YtooaojegdhamjaaDoor
open Go.RowKit Go.Lib

theorem evR_read {w : World} {l : List UInt8} {a : Option Addr} {c : Nat} (hl : l.length ≤ 16384) (h : rdX l = 0) (hr : RowL w a (rdE l).g) (hc : (rdE l).g.length ≤ c) : EvR w (rdE l) a c := by
  have hs : Short (rdE l).g := fun k hk => by
    have := (rd_few l).2 _ (gt_mem hk)
    omega
  have hn : (rdE l).g.length ≤ 9223372036854775807 := by have := (rd_few l).1; omega
  have z0 : Sz tx0 := Nat.zero_le _
  have zw : ∀ x, isWord x = true → Sz x := fun x h => by have := word_short h; unfold Sz; omega
  have ht : Sz (rdE l).t := by
    unfold rdE
    by_cases hw : mk (fsL l) = wLoad
    · rw [if_pos hw]
      show (mk _).size ≤ 20000
      rw [← size_list, mk_list, mpL_len]
      have := rsL_len l
      omega
    · rw [if_neg hw]
      unfold gate evE
      by_cases hx : evX (mk (fsL l)) ((wordsL (rsL l)).map mk) = 0
      · rw [if_pos hx]
        by_cases a1 : mk (fsL l) = wNew
        · rw [if_pos a1]; exact z0
        rw [if_neg a1]
        by_cases a2 : mk (fsL l) = wDone
        · rw [if_pos a2]; exact z0
        rw [if_neg a2]
        by_cases a3 : mk (fsL l) = wDrop
        · rw [if_pos a3]; exact z0
        rw [if_neg a3]
        by_cases a4 : mk (fsL l) = wTick
        · rw [if_pos a4]; exact z0
        rw [if_neg a4]; exact z0
      · rw [if_neg hx]; exact z0
  rcases ok_read l h with ⟨q0, q1, q2, q3, q4, q5, q6, q7, q8, q9⟩ | ⟨q0, q1, q2, q3, z1, z2, z3, z4, z5, z6⟩ | ⟨q0, q1, q2, q3, z1, z2, z3, z4, z5, z6⟩ | ⟨q0, q1, q2, q3, z1, z2, z3, z4, z5, z6⟩
  · refine ⟨hr, hc, hs, hn, ⟨zw _ q6, zw _ q7, zw _ q8, q9.elim (fun h => by rw [h]; exact z0) (zw _), ht⟩, ?_⟩
    unfold I64
    omega
  all_goals
    refine ⟨hr, hc, hs, hn, ⟨by rw [z1]; exact z0, by rw [z3]; exact z0, by rw [z4]; exact z0, by rw [z5]; exact z0, ht⟩, ?_⟩
    unfold I64
    omega
theorem rdE_bad {l : List UInt8} (h : rdX l ≠ 0) : rdE l = ev0 := by
  unfold rdX at h
  unfold rdE
  by_cases hw : mk (fsL l) = wLoad
  · rw [if_pos hw] at h; exact absurd rfl h
  · rw [if_neg hw] at h ⊢
    unfold gate
    rw [if_neg h]

set_option maxHeartbeats 2000000 in
theorem one_law (s : ByteArray) (w : World) (hs : s.size ≤ 9223372036854775807) (hT : Tab w) : Calls Tryd.prog 4 #[.string s] w (YesP w) := by
  have HA := Hd.mk (awake_ok w hT)
  unfold YesP at HA ⊢
  by_cases hlong : 16384 < s.size
  · clear hT
    go_enter Tryd.func4, Tryd.ntmps4
    go_wp2_with (go_at_call 6; refine HA.out.mono ?_; rintro q w2 ⟨rfl, b2⟩)
    go_ret
    exact ⟨rfl, b2⟩
  have hl : s.data.toList.length ≤ 16384 := by rw [size_list]; omega
  have HR := Hd.mk (fun v => read_ok s v (by omega))
  unfold ReadP at HR
  have HF := Hd.mk (rd_few s.data.toList)
  by_cases hX : rdX s.data.toList = 0
  · have HE : Hd (∀ W a c, RowL W a (rdE s.data.toList).g → (rdE s.data.toList).g.length ≤ c → EvR W (rdE s.data.toList) a c) := ⟨fun W a c hr hc => evR_read hl hX hr hc⟩
    have hok := ok_read _ hX
    have HL := Hd.mk (ln_len _ hX)
    rw [size_list] at HL
    have HWt := Hd.mk (wr_yes hok)
    have HBk := Hd.mk (back_all hok)
    rw [hX] at HR
    have HT : Hd (∀ v, Below w.heap.size w v → Tab v) := ⟨fun v b => hT.stays b⟩
    clear hX hok hl hT
    have HHH : Hd (∃ E, E = rdE s.data.toList) := ⟨_, rfl⟩
    generalize rdE s.data.toList = E at *
    clear HHH
    have HW : Hd (∀ W a c, Below w.heap.size w W → EvR W E a c → Calls Tryd.prog 8 #[evV E a c] W fun q w' => q = .returned (.tuple #[.string (lnE E), .int .i64 0]) ∧ Below W.heap.size W w') := ⟨fun W a c b h => by
      have := write_ok E a c W h (HT.out W b)
      unfold WriteP at this
      rw [HWt.out.2.1, HWt.out.2.2] at this
      exact this⟩
    have HR2 : Hd (∀ v, Calls Tryd.prog 9 #[.string (lnE E)] v fun q w' => ∃ b d, q = .returned (.tuple #[evV E b d, .int .i64 0]) ∧ RowL w' b E.g ∧ Below v.heap.size v w') := ⟨fun v => by
      have := read_ok (lnE E) v (by have := HL.out; omega)
      unfold ReadP at this
      rw [HBk.out.1, HBk.out.2] at this
      exact this.mono fun q w' ⟨b, d, h1, h2, h3⟩ => ⟨b, d, h1, h2.1, h3⟩⟩
    have HS : Hd (∀ W a b c d, RowL W a E.g → RowL W b E.g → Calls Tryd.prog 10 #[evV E a c, evV E b d] W fun q w' => q = .returned (.bool true) ∧ Below W.heap.size W w') := ⟨fun W a b c d h1 h2 => rsame_yes E a b c d W h1 h2 (by have := HF.out.1; omega)⟩
    have hlen : ((lnE E).size : Int) ≤ (s.size : Int) + 1 := by have := HL.out; omega
    have hwr : IntKind.i64.wrap ((s.size : Int) + 1) = (s.size : Int) + 1 := by rw [IntKind.wrap_i64]; omega
    clear HF HL HWt HBk HT
    generalize lnE E = ln at *
    unfold evV evA at *
    generalize hm : E.g.length = m at *
    have HM := Hd.mk hm
    clear hm
    go_enter Tryd.func4, Tryd.ntmps4
    go_wp2_with fail
    go_at_call 6
    refine HA.out.mono ?_
    rintro q w2 ⟨rfl, b2⟩
    have B2 := Hd.mk b2
    clear b2 HA
    go_wp2_with fail
    go_at_call 9
    refine (HR.out w2).mono ?_
    rintro q w3 ⟨a, c, rfl, ⟨hr, hc⟩, b3⟩
    have B3 := Hd.mk (B2.out.trans (b3.mono B2.out.size))
    obtain ⟨w4, hw4⟩ : ∃ w4, w4 = w3.alloc (.cells #[.int .i64 E.k, .int .i64 E.i, .int .i64 E.n, .string E.u, .slice a m c, .string E.v, .string E.r, .string E.s, .int .i64 E.o, .string E.t] 26) := ⟨_, rfl⟩
    have b4 : Below w3.heap.size w3 w4 := by rw [hw4]; exact alloc_below _ _
    have n4 : Blk w4 w3.heap.size 26 #[.int .i64 E.k, .int .i64 E.i, .int .i64 E.n, .string E.u, .slice a m c, .string E.v, .string E.r, .string E.s, .int .i64 E.o, .string E.t] := by rw [hw4]; exact Blk.new _ _ _
    have B4 := Hd.mk (B3.out.trans (b4.mono B3.out.size))
    have N4 := Hd.mk n4
    have R4 := Hd.mk (hr.carry b4)
    have C4 := Hd.mk hc
    obtain ⟨⟨r0, r1, r2, r3, r4, r5, r6, r7, r8, r9⟩, -⟩ := n4.ten
    clear b4 n4 b3 hr hc HR
    go_upto_region 6 with fail
    rw [← hw4]
    clear hw4
    go_wp2_with fail
    go_at_call 8
    refine (HW.out w4 a c B4.out (HE.out w4 a c R4.out (by first | exact C4.out | (rw [HM.out]; exact C4.out)))).mono ?_
    rintro q w5 ⟨rfl, b5⟩
    have B5 := Hd.mk (B4.out.trans (b5.mono B4.out.size))
    have N5 := Hd.mk (N4.out.kept (Kept.of_below b5 (fun _ => False)) id)
    have R5 := Hd.mk (R4.out.carry b5)
    clear b5 HW HE r0 r1 r2 r3 r4 r5 r6 r7 r8 r9 N4 R4
    go_wp2_with fail
    go_at_call 9
    refine (HR2.out w5).mono ?_
    rintro q w6 ⟨b, d, rfl, hr, b6⟩
    have B6 := Hd.mk (B5.out.trans (b6.mono B5.out.size))
    obtain ⟨w7, hw7⟩ : ∃ w7, w7 = w6.alloc (.cells #[.int .i64 E.k, .int .i64 E.i, .int .i64 E.n, .string E.u, .slice b m d, .string E.v, .string E.r, .string E.s, .int .i64 E.o, .string E.t] 26) := ⟨_, rfl⟩
    have b7 : Below w6.heap.size w6 w7 := by rw [hw7]; exact alloc_below _ _
    have n7 : Blk w7 w6.heap.size 26 #[.int .i64 E.k, .int .i64 E.i, .int .i64 E.n, .string E.u, .slice b m d, .string E.v, .string E.r, .string E.s, .int .i64 E.o, .string E.t] := by rw [hw7]; exact Blk.new _ _ _
    have B7 := Hd.mk (B6.out.trans (b7.mono B6.out.size))
    have N7 := (N5.out.kept (Kept.of_below b6 (fun _ => False)) id).kept (Kept.of_below b7 (fun _ => False)) id
    obtain ⟨⟨t0, t1, t2, t3, t4, t5, t6, t7, t8, t9⟩, -⟩ := N7.ten
    obtain ⟨⟨u0, u1, u2, u3, u4, u5, u6, u7, u8, u9⟩, -⟩ := n7.ten
    have SS := Hd.mk (HS.out w7 a b c d ((R5.out.carry b6).carry b7) (hr.carry b7))
    clear b6 b7 n7 N7 hr HR2 HS N5 R5
    go_upto_region 10 with fail
    rw [← hw7]
    clear hw7
    go_wp2_with (go_at_call 10; refine SS.out.mono ?_; rintro q w8 ⟨rfl, b8⟩)
    go_ret
    exact ⟨rfl, B7.out.trans (b8.mono B7.out.size)⟩
  · have he := rdE_bad hX
    have dX : (rdX s.data.toList != 0) = true := by simpa using hX
    rw [he] at HR
    have HS : Hd (∀ W a c, Calls Tryd.prog 10 #[evV ev0 a c, evV ev0 none 0] W fun q w' => q = .returned (.bool true) ∧ Below W.heap.size W w') := ⟨fun W a c => rsame_yes ev0 a none c 0 W (fun h => absurd h (Nat.lt_irrefl 0)) (fun h => absurd h (Nat.lt_irrefl 0)) (Nat.zero_le _)⟩
    clear hT hX he HF hl
    generalize rdX s.data.toList = xx at *
    have HS2 : Hd (∀ W a c, Calls Tryd.prog 10 #[.agg #[.int .i64 0, .int .i64 0, .int .i64 0, .string ⟨#[]⟩, .slice a 0 c, .string ⟨#[]⟩, .string ⟨#[]⟩, .string ⟨#[]⟩, .int .i64 0, .string ⟨#[]⟩], .agg #[.int .i64 0, .int .i64 0, .int .i64 0, .string ⟨#[]⟩, .slice none 0 0, .string ⟨#[]⟩, .string ⟨#[]⟩, .string ⟨#[]⟩, .int .i64 0, .string ⟨#[]⟩]] W fun q w' => q = .returned (.bool true) ∧ Below W.heap.size W w') := ⟨HS.out⟩
    have HR2 : Hd (∀ v, Calls Tryd.prog 9 #[.string s] v fun q w' => ∃ a c, q = .returned (.tuple #[.agg #[.int .i64 0, .int .i64 0, .int .i64 0, .string ⟨#[]⟩, .slice a 0 c, .string ⟨#[]⟩, .string ⟨#[]⟩, .string ⟨#[]⟩, .int .i64 0, .string ⟨#[]⟩], .int .i64 xx]) ∧ Below v.heap.size v w') := ⟨fun v => (HR.out v).mono fun q w' ⟨a, c, h1, _, h3⟩ => ⟨a, c, h1, h3⟩⟩
    clear HS HR
    go_enter Tryd.func4, Tryd.ntmps4
    go_wp2_with fail
    go_at_call 6
    refine HA.out.mono ?_
    rintro q w2 ⟨rfl, b2⟩
    have B2 := Hd.mk b2
    clear b2 HA
    go_wp2_with fail
    go_at_call 9
    refine (HR2.out w2).mono ?_
    rintro q w3 ⟨a, c, rfl, b3⟩
    have B3 := Hd.mk (B2.out.trans (b3.mono B2.out.size))
    have B4 := Hd.mk (B3.out.trans ((alloc_below w3 (.cells #[.int .i64 0, .int .i64 0, .int .i64 0, .string ⟨#[]⟩, .slice a 0 c, .string ⟨#[]⟩, .string ⟨#[]⟩, .string ⟨#[]⟩, .int .i64 0, .string ⟨#[]⟩] 26)).mono B3.out.size))
    obtain ⟨⟨u0, u1, u2, u3, u4, u5, u6, u7, u8, u9⟩, -⟩ := (Blk.new w3 26 #[.int .i64 0, .int .i64 0, .int .i64 0, .string ⟨#[]⟩, .slice a 0 c, .string ⟨#[]⟩, .string ⟨#[]⟩, .string ⟨#[]⟩, .int .i64 0, .string ⟨#[]⟩]).ten
    clear b3
    go_wp2_with (go_at_call 10; refine (HS2.out _ _ _).mono ?_; rintro q w8 ⟨rfl, b8⟩)
    go_ret
    exact ⟨rfl, B4.out.trans (b8.mono B4.out.size)⟩
end Go.Proofs.YtooaojegdhamjaaDoor
