/-
  The walk of 'EventBlanks'. Conditions: the text and the row of bytes have lengths that fit their type, the row and the table of powers lie in memory.
-/
import Derived.Test.YtooaojegdhamjaaDoorEvV
import Derived.Test.YtooaojegdhamjaaDoorRefA
namespace Go.Proofs.YtooaojegdhamjaaDoor
open Go.RowKit Go.Lib

theorem cutL_clean (c : UInt8) : ∀ l : List UInt8, ∀ x ∈ cutL c l, c ∉ x
  | [], x, h => by
    have : x = [] := by simpa [cutL] using h
    subst this; simp
  | b :: l, x, h => by
    rw [cutL_cons] at h
    by_cases hb : b = c
    · rw [if_pos hb] at h
      rcases List.mem_cons.1 h with rfl | h
      · simp
      · exact cutL_clean c l x h
    · rw [if_neg hb] at h
      rcases List.mem_cons.1 h with rfl | h
      · intro hm
        rcases List.mem_cons.1 hm with e | e
        · exact hb e.symm
        · cases hc : cutL c l with
          | nil => exact cutL_ne c l hc
          | cons y t =>
            rw [hc] at e
            exact cutL_clean c l y (by rw [hc]; exact List.mem_cons_self ..) e
      · exact cutL_clean c l x (List.mem_of_mem_tail h)
theorem word_in {l x : List UInt8} (h : x ∈ wordsL l) : (32 : UInt8) ∉ x ∧ x ≠ [] ∧ x.length ≤ l.length := by
  have h2 := List.mem_filter.1 h
  refine ⟨cutL_clean 32 l x h2.1, fun e => ?_, word_len h⟩
  subst e
  have := h2.2
  simp [neL] at this
/-- The k-th word of a line. -/
theorem word_at (s : ByteArray) {k : Nat} (h : k < (wordsB s).length) : (32 : UInt8) ∉ (gt (wordsB s) k).data.toList ∧ (gt (wordsB s) k).data.toList ≠ [] ∧ (gt (wordsB s) k).size ≤ s.size ∧ (wordsL s.data.toList).take (k + 1) = (wordsL s.data.toList).take k ++ [(gt (wordsB s) k).data.toList] := by
  have hk : k < (wordsL s.data.toList).length := by unfold wordsB at h; rwa [List.length_map] at h
  have e : gt (wordsB s) k = mk (wordsL s.data.toList)[k] := by
    unfold gt wordsB
    simp [hk]
  have hm := word_in (List.getElem_mem hk)
  rw [e, ← size_list, mk_list]
  refine ⟨hm.1, hm.2.1, by have := hm.2.2; rw [size_list] at this; exact this, ?_⟩
  rw [List.take_add_one, List.getElem?_eq_getElem hk]
  rfl
theorem first_load {s : ByteArray} (h : mk (fsL s.data.toList) = wLoad) : 0 < (wordsB s).length ∧ gt (wordsB s) 0 = wLoad := by
  rcases first_cases s.data.toList with ⟨a1, _⟩ | ⟨_, _, a3, _⟩
  · rw [a1] at h; exact absurd h (by decide)
  · unfold wordsB
    rw [a3, List.map_cons, h]
    exact ⟨by simp, rfl⟩

set_option maxRecDepth 20000 in
set_option maxHeartbeats 4000000 in
theorem blanks_law (s : ByteArray) (bl : Option Addr) (n bc : Nat) (f : Nat → Nat) (w : World) (hB : RowB w bl n f) (hf : ∀ k, k < n → f k < 256) (hn : n ≤ 9223372036854775807) (hs : s.size ≤ 9223372036854775807) (hT : Tab w) :
    Calls Tryd.prog 5 #[.string s, .slice bl n bc] w (YesP w) := by
  have HA := Hd.mk (awake_ok w hT)
  unfold YesP at HA ⊢
  by_cases hlong : 4000 < s.size
  · clear hT hB hf
    go_enter Tryd.func5, Tryd.ntmps5
    go_wp2_with (go_at_call 6; refine HA.out.mono ?_; rintro q w2 ⟨rfl, b2⟩)
    go_ret
    exact ⟨rfl, b2⟩
  have HW := Hd.mk (fun v => rwords_ok s v (by omega))
  have hfew : (wordsB s).length ≤ 4001 := by have := words_count s; omega
  have HR := Hd.mk (fun v => read_ok s v (by omega))
  unfold ReadP at HR
  have HX0 : Hd (s.size ≤ 4000) := ⟨by omega⟩
  have HF := Hd.mk hf
  clear hf hs hT
  generalize hm : (wordsB s).length = m at *
  have HM := Hd.mk hm
  clear hm
  go_enter Tryd.func5, Tryd.ntmps5
  go_wp2_with fail
  go_at_call 6
  refine HA.out.mono ?_
  rintro q w2 ⟨rfl, b2⟩
  have B2 := Hd.mk b2
  clear b2 HA
  go_wp2_with fail
  go_at_call 11
  refine (HW.out w2).mono ?_
  rintro q w3 ⟨a, c, rfl, hr, b3⟩
  have B3 := Hd.mk (B2.out.trans (b3.mono B2.out.size))
  have RW := Hd.mk hr
  have RB := Hd.mk ((hB.carry B2.out).carry b3)
  clear b3 hr hB HW
  by_cases h40 : 40 < m
  · by_cases h0 : gt (wordsB s) 0 = wLoad
    · obtain ⟨b1, o1, rfl, hb1, hc⟩ := RW.out (by rw [HM.out]; omega)
      have c0 := hc 0 (by rw [HM.out]; omega)
      rw [Nat.add_zero, h0] at c0
      have c0' : w3.cell? ⟨b1, o1, none⟩ = some (.string ⟨#[108, 111, 97, 100]⟩) := c0
      clear c0 hc h0
      go_wp2_with fail
      go_ret
      exact ⟨rfl, B3.out⟩
    · obtain ⟨b1, o1, rfl, hb1, hc⟩ := RW.out (by rw [HM.out]; omega)
      have c0 := hc 0 (by rw [HM.out]; omega)
      rw [Nat.add_zero] at c0
      have ne : ((gt (wordsB s) 0).toList == [108, 111, 97, 100]) = false := f_no h0
      clear hc h0
      generalize gt (wordsB s) 0 = y at c0 ne
      go_wp2_with fail
      go_ret
      exact ⟨rfl, B3.out⟩
  by_cases h0 : 0 < m ∧ gt (wordsB s) 0 = wLoad
  · obtain ⟨b1, o1, rfl, hb1, hc⟩ := RW.out (by rw [HM.out]; exact h0.1)
    have c0 := hc 0 (by rw [HM.out]; exact h0.1)
    rw [Nat.add_zero, h0.2] at c0
    have c0' : w3.cell? ⟨b1, o1, none⟩ = some (.string ⟨#[108, 111, 97, 100]⟩) := c0
    have hmp := h0.1
    clear c0 hc h0
    go_wp2_with fail
    go_ret
    exact ⟨rfl, B3.out⟩
  have HNL : Hd (mk (fsL s.data.toList) ≠ wLoad) := ⟨fun h => h0 (by have := first_load h; rw [HM.out] at this; exact this)⟩
  have HFW : Hd (∀ x : ByteArray, wordsL x.data.toList = (wordsL s.data.toList).take m → rdE (x ++ ⟨#[32]⟩).data.toList = rdE s.data.toList ∧ rdX (x ++ ⟨#[32]⟩).data.toList = rdX s.data.toList) := ⟨fun x hx => by
    have hl : (wordsL s.data.toList).length = m := by have := HM.out; unfold wordsB at this; rwa [List.length_map] at this
    rw [List.take_of_length_le (by omega)] at hx
    have h2 : wordsL s.data.toList = wordsL (x ++ ⟨#[32]⟩).data.toList := by rw [cat_list, ← hx]; exact (wordsL_snoc _).symm
    obtain ⟨e1, e2⟩ := rd_words h2 HNL.out
    exact ⟨e1.symm, e2.symm⟩⟩
  have HWA : Hd (∀ k, k < m → (32 : UInt8) ∉ (gt (wordsB s) k).data.toList ∧ (gt (wordsB s) k).data.toList ≠ [] ∧ (gt (wordsB s) k).size ≤ s.size ∧ (wordsL s.data.toList).take (k + 1) = (wordsL s.data.toList).take k ++ [(gt (wordsB s) k).data.toList]) := ⟨fun k hk => word_at s (by rw [HM.out]; exact hk)⟩
  have HCW : Hd (0 < m → ∃ b1 o1, a = some ⟨b1, o1, none⟩ ∧ b1 < w3.heap.size ∧ ∀ k, k < m → w3.cell? ⟨b1, o1 + k, none⟩ = some (.string (gt (wordsB s) k))) := ⟨fun h => by
    obtain ⟨b1, o1, e, hb, hc⟩ := RW.out (by rw [HM.out]; exact h)
    exact ⟨b1, o1, e, hb, fun k hk => hc k (by rw [HM.out]; exact hk)⟩⟩
  have HRD : Hd (∀ (x : ByteArray) (v : World), wordsL x.data.toList = (wordsL s.data.toList).take m → x.size ≤ 200000 → Calls Tryd.prog 9 #[.string (x ++ ⟨#[32]⟩)] v fun q w' => ∃ a c, q = .returned (.tuple #[evV (rdE s.data.toList) a c, .int .i64 (rdX s.data.toList)]) ∧ RowL w' a (rdE s.data.toList).g ∧ Below v.heap.size v w') := ⟨fun x v hx hz => by
    have hc : (x ++ (⟨#[32]⟩ : ByteArray)).size = x.size + 1 := by rw [cat_size]; rfl
    have := read_ok (x ++ ⟨#[32]⟩) v (by omega)
    unfold ReadP at this
    rw [(HFW.out x hx).1, (HFW.out x hx).2] at this
    exact this.mono fun q w' ⟨a, c, h1, h2, h3⟩ => ⟨a, c, h1, h2.1, h3⟩⟩
  have HRS : Hd (∀ v, Calls Tryd.prog 9 #[.string s] v fun q w' => ∃ a c, q = .returned (.tuple #[evV (rdE s.data.toList) a c, .int .i64 (rdX s.data.toList)]) ∧ RowL w' a (rdE s.data.toList).g ∧ Below v.heap.size v w') := ⟨fun v => (HR.out v).mono fun q w' ⟨a, c, h1, h2, h3⟩ => ⟨a, c, h1, h2.1, h3⟩⟩
  have hgd : 0 < m → ((gt (wordsB s) 0).toList == [108, 111, 97, 100]) = false := fun hp => f_no fun e => h0 ⟨hp, e⟩
  have HGD := Hd.mk hgd
  have HRB : Hd (0 < n → ∃ b off, bl = some ⟨b, off, none⟩ ∧ b < w3.heap.size ∧ ∀ k, k < n → w3.cell? ⟨b, off + k, none⟩ = some (.int .u8 (f k : Nat))) := ⟨RB.out⟩
  have HSM : Hd (∀ W a b c d, RowL W a (rdE s.data.toList).g → RowL W b (rdE s.data.toList).g → Calls Tryd.prog 10 #[evV (rdE s.data.toList) a c, evV (rdE s.data.toList) b d] W fun q w' => q = .returned (.bool true) ∧ Below W.heap.size W w') := ⟨fun W a b c d h1 h2 => rsame_yes _ a b c d W h1 h2 (by have := (rd_few s.data.toList).1; omega)⟩
  clear HR HFW HNL hgd h0 RW RB
  generalize rdE s.data.toList = E at *
  generalize rdX s.data.toList = xx at *
  generalize hWl : wordsL s.data.toList = Wl at *
  clear hWl
  generalize wordsB s = WB at *
  have tail : True := trivial
  by_cases hmp : 0 < m
  · skip
    obtain ⟨b1, o1, rfl, hb1, hc⟩ := HCW.out hmp
    have c0 := hc 0 hmp
    rw [Nat.add_zero] at c0
    have HC := Hd.mk hc
    have ne := HGD.out hmp
    clear hc HCW HGD
    generalize hy : gt WB 0 = y at c0 ne
    clear hy
    go_wp2_with fail
    clear c0 ne
    go_loopw [6, 7] (fun s6 i wr => ∃ (k : Nat) (x : ByteArray), k ≤ m ∧ i = .int .i64 k ∧ s6 = .string x ∧ x.size ≤ 4003 * k ∧ Hd (wordsL x.data.toList = Wl.take k) ∧ wr = w3) (fun _ i _ => m - (intOf i).toNat)
    case atStart => exact ⟨0, ⟨#[]⟩, Nat.zero_le _, rfl, rfl, Nat.zero_le _, ⟨rfl⟩, rfl⟩
    case round =>
      obtain ⟨k, x, hk, rfl, rfl, hxs, HX, rfl⟩ := hrel
      by_cases hlt : k < m
      · have ck := HC.out k hlt
        obtain ⟨z1, z2, z3, z4⟩ := HWA.out k hlt
        have HZ := Hd.mk z3
        have HZ2 := Hd.mk (And.intro z1 z2)
        have HT := Hd.mk z4
        clear z1 z2 z3 z4
        generalize gt WB k = z at *
        by_cases hkn : k < n
        · obtain ⟨b2, o2, rfl, hbb2, hc2⟩ := HRB.out (by omega)
          have cb := hc2 k hkn
          have hfk := HF.out k hkn
          clear hc2
          have e1 : ((f k : Nat) : Int).tmod 3 = ((f k % 3 : Nat) : Int) := (Int.ofNat_tmod _ _).symm
          have ht : f k % 3 < 3 := Nat.mod_lt _ (by decide)
          generalize f k % 3 = t at *
          generalize f k = fk at *
          go_wp2_with fail
          go_loop [6, 53] (fun s6 j => ∃ (jj : Nat) (l2 : ByteArray), jj ≤ (1 + t) ∧ j = .int .i64 jj ∧ s6 = .string l2 ∧ Hd (wordsL l2.data.toList = wordsL x.data.toList ∧ (0 < jj → ∃ y, l2.data.toList = y ++ [32])) ∧ l2.size = x.size + jj) (fun _ j => (1 + t) - (intOf j).toNat)
          case atStart => exact ⟨0, x, Nat.zero_le _, rfl, rfl, ⟨rfl, fun h => absurd h (Nat.lt_irrefl 0)⟩, rfl⟩
          case round =>
            obtain ⟨jj, l2, hjj, rfl, rfl, h2, hs2⟩ := hrel
            by_cases hjl : jj < (1 + t)
            · go_wp2
              go_round
              case rel =>
                refine ⟨jj + 1, _, by omega, by go_num, rfl, ⟨?_, fun _ => ⟨l2.data.toList, ?_⟩⟩, ?_⟩
                · rw [cat_list]; exact (wordsL_snoc _).trans h2.out.1
                · rw [cat_list]
                · rw [cat_size, hs2]; rfl
              case measure => simp [intOf]; omega
            · obtain rfl : jj = (1 + t) := by omega
              have hz4 := HX0.out
              have hz5 := HZ.out
              have NX : Hd (wordsL (l2 ++ z).data.toList = Wl.take (k + 1) ∧ (l2 ++ z).size ≤ 4003 * (k + 1)) := ⟨by
                obtain ⟨y, hy⟩ := h2.out.2 (by omega)
                rw [cat_list, HT.out, ← HX.out, ← h2.out.1, hy]
                exact wordsL_put y z.data.toList HZ2.out.1 HZ2.out.2, by rw [cat_size]; omega⟩
              clear h2
              go_wp2
              go_roundw
              case rel => exact ⟨k + 1, l2 ++ z, by omega, by go_num, rfl, NX.out.2, ⟨NX.out.1⟩, by first | rfl | trivial⟩
              case measure => simp [intOf]; omega
        · go_wp2_with fail
          go_loop [6, 53] (fun s6 j => ∃ (jj : Nat) (l2 : ByteArray), jj ≤ 1 ∧ j = .int .i64 jj ∧ s6 = .string l2 ∧ Hd (wordsL l2.data.toList = wordsL x.data.toList ∧ (0 < jj → ∃ y, l2.data.toList = y ++ [32])) ∧ l2.size = x.size + jj) (fun _ j => 1 - (intOf j).toNat)
          case atStart => exact ⟨0, x, Nat.zero_le _, rfl, rfl, ⟨rfl, fun h => absurd h (Nat.lt_irrefl 0)⟩, rfl⟩
          case round =>
            obtain ⟨jj, l2, hjj, rfl, rfl, h2, hs2⟩ := hrel
            by_cases hjl : jj < 1
            · go_wp2
              go_round
              case rel =>
                refine ⟨jj + 1, _, by omega, by go_num, rfl, ⟨?_, fun _ => ⟨l2.data.toList, ?_⟩⟩, ?_⟩
                · rw [cat_list]; exact (wordsL_snoc _).trans h2.out.1
                · rw [cat_list]
                · rw [cat_size, hs2]; rfl
              case measure => simp [intOf]; omega
            · obtain rfl : jj = 1 := by omega
              have hz4 := HX0.out
              have hz5 := HZ.out
              have NX : Hd (wordsL (l2 ++ z).data.toList = Wl.take (k + 1) ∧ (l2 ++ z).size ≤ 4003 * (k + 1)) := ⟨by
                obtain ⟨y, hy⟩ := h2.out.2 (by omega)
                rw [cat_list, HT.out, ← HX.out, ← h2.out.1, hy]
                exact wordsL_put y z.data.toList HZ2.out.1 HZ2.out.2, by rw [cat_size]; omega⟩
              clear h2
              go_wp2
              go_roundw
              case rel => exact ⟨k + 1, l2 ++ z, by omega, by go_num, rfl, NX.out.2, ⟨NX.out.1⟩, by first | rfl | trivial⟩
              case measure => simp [intOf]; omega
      · obtain rfl : k = m := by omega
        clear HWA HC HRB HF
        have R1 := Hd.mk (HRS.out wr)
        have R2 := Hd.mk (fun v => HRD.out x v HX.out (by omega))
        clear HRS HRD HX
        unfold evV evA at *
        generalize hgl : E.g.length = gl at *
        clear hgl
        go_wp2_with fail
        go_at_call 9
        refine R1.out.mono ?_
        rintro q w4 ⟨a4, c4, rfl, hr4, b4⟩
        obtain ⟨w5, hw5⟩ : ∃ w5, w5 = w4.alloc (.cells #[.int .i64 E.k, .int .i64 E.i, .int .i64 E.n, .string E.u, .slice a4 gl c4, .string E.v, .string E.r, .string E.s, .int .i64 E.o, .string E.t] 26) := ⟨_, rfl⟩
        have b5 : Below w4.heap.size w4 w5 := by rw [hw5]; exact alloc_below _ _
        have n5 : Blk w5 w4.heap.size 26 #[.int .i64 E.k, .int .i64 E.i, .int .i64 E.n, .string E.u, .slice a4 gl c4, .string E.v, .string E.r, .string E.s, .int .i64 E.o, .string E.t] := by rw [hw5]; exact Blk.new _ _ _
        have B5 := Hd.mk ((B3.out.trans (b4.mono B3.out.size)).trans (b5.mono (Nat.le_trans B3.out.size b4.size)))
        have N5 := Hd.mk n5
        have R5 := Hd.mk (hr4.carry b5)
        clear b4 b5 n5 hr4 R1
        go_wp2_with fail
        rw [← hw5]
        clear hw5
        go_at_call 9
        refine (R2.out w5).mono ?_
        rintro q w6 ⟨a6, c6, rfl, hr6, b6⟩
        obtain ⟨w7, hw7⟩ : ∃ w7, w7 = w6.alloc (.cells #[.int .i64 E.k, .int .i64 E.i, .int .i64 E.n, .string E.u, .slice a6 gl c6, .string E.v, .string E.r, .string E.s, .int .i64 E.o, .string E.t] 26) := ⟨_, rfl⟩
        have b7 : Below w6.heap.size w6 w7 := by rw [hw7]; exact alloc_below _ _
        have n7 : Blk w7 w6.heap.size 26 #[.int .i64 E.k, .int .i64 E.i, .int .i64 E.n, .string E.u, .slice a6 gl c6, .string E.v, .string E.r, .string E.s, .int .i64 E.o, .string E.t] := by rw [hw7]; exact Blk.new _ _ _
        have B7 := Hd.mk ((B5.out.trans (b6.mono B5.out.size)).trans (b7.mono (Nat.le_trans B5.out.size b6.size)))
        have N7 := (N5.out.kept (Kept.of_below b6 (fun _ => False)) id).kept (Kept.of_below b7 (fun _ => False)) id
        obtain ⟨⟨t0, t1, t2, t3, t4, t5, t6, t7, t8, t9⟩, -⟩ := N7.ten
        obtain ⟨⟨u0, u1, u2, u3, u4, u5, u6, u7, u8, u9⟩, -⟩ := n7.ten
        have SS := Hd.mk (HSM.out w7 a4 a6 c4 c6 ((R5.out.carry b6).carry b7) (hr6.carry b7))
        clear b6 b7 n7 N7 hr6 R2 HSM N5 R5
        go_upto_region 22 with fail
        rw [← hw7]
        clear hw7
        go_wp2_with (go_at_call 10; refine SS.out.mono ?_; rintro q w8 ⟨rfl, b8⟩)
        go_ret
        exact ⟨rfl, B7.out.trans (b8.mono B7.out.size)⟩
  · skip
    obtain rfl : m = 0 := by omega
    clear HCW HGD
    go_wp2_with fail
    go_loopw [6, 7] (fun s6 i wr => ∃ (k : Nat) (x : ByteArray), k ≤ 0 ∧ i = .int .i64 k ∧ s6 = .string x ∧ x.size ≤ 4003 * k ∧ Hd (wordsL x.data.toList = Wl.take k) ∧ wr = w3) (fun _ i _ => 0 - (intOf i).toNat)
    case atStart => exact ⟨0, ⟨#[]⟩, Nat.zero_le _, rfl, rfl, Nat.zero_le _, ⟨rfl⟩, rfl⟩
    case round =>
      obtain ⟨k, x, hk, rfl, rfl, hxs, HX, rfl⟩ := hrel
      obtain rfl : k = 0 := by omega
      clear HWA HRB HF
      have R1 := Hd.mk (HRS.out wr)
      have R2 := Hd.mk (fun v => HRD.out x v HX.out (by omega))
      clear HRS HRD HX
      unfold evV evA at *
      generalize hgl : E.g.length = gl at *
      clear hgl
      go_wp2_with fail
      go_at_call 9
      refine R1.out.mono ?_
      rintro q w4 ⟨a4, c4, rfl, hr4, b4⟩
      obtain ⟨w5, hw5⟩ : ∃ w5, w5 = w4.alloc (.cells #[.int .i64 E.k, .int .i64 E.i, .int .i64 E.n, .string E.u, .slice a4 gl c4, .string E.v, .string E.r, .string E.s, .int .i64 E.o, .string E.t] 26) := ⟨_, rfl⟩
      have b5 : Below w4.heap.size w4 w5 := by rw [hw5]; exact alloc_below _ _
      have n5 : Blk w5 w4.heap.size 26 #[.int .i64 E.k, .int .i64 E.i, .int .i64 E.n, .string E.u, .slice a4 gl c4, .string E.v, .string E.r, .string E.s, .int .i64 E.o, .string E.t] := by rw [hw5]; exact Blk.new _ _ _
      have B5 := Hd.mk ((B3.out.trans (b4.mono B3.out.size)).trans (b5.mono (Nat.le_trans B3.out.size b4.size)))
      have N5 := Hd.mk n5
      have R5 := Hd.mk (hr4.carry b5)
      clear b4 b5 n5 hr4 R1
      go_wp2_with fail
      rw [← hw5]
      clear hw5
      go_at_call 9
      refine (R2.out w5).mono ?_
      rintro q w6 ⟨a6, c6, rfl, hr6, b6⟩
      obtain ⟨w7, hw7⟩ : ∃ w7, w7 = w6.alloc (.cells #[.int .i64 E.k, .int .i64 E.i, .int .i64 E.n, .string E.u, .slice a6 gl c6, .string E.v, .string E.r, .string E.s, .int .i64 E.o, .string E.t] 26) := ⟨_, rfl⟩
      have b7 : Below w6.heap.size w6 w7 := by rw [hw7]; exact alloc_below _ _
      have n7 : Blk w7 w6.heap.size 26 #[.int .i64 E.k, .int .i64 E.i, .int .i64 E.n, .string E.u, .slice a6 gl c6, .string E.v, .string E.r, .string E.s, .int .i64 E.o, .string E.t] := by rw [hw7]; exact Blk.new _ _ _
      have B7 := Hd.mk ((B5.out.trans (b6.mono B5.out.size)).trans (b7.mono (Nat.le_trans B5.out.size b6.size)))
      have N7 := (N5.out.kept (Kept.of_below b6 (fun _ => False)) id).kept (Kept.of_below b7 (fun _ => False)) id
      obtain ⟨⟨t0, t1, t2, t3, t4, t5, t6, t7, t8, t9⟩, -⟩ := N7.ten
      obtain ⟨⟨u0, u1, u2, u3, u4, u5, u6, u7, u8, u9⟩, -⟩ := n7.ten
      have SS := Hd.mk (HSM.out w7 a4 a6 c4 c6 ((R5.out.carry b6).carry b7) (hr6.carry b7))
      clear b6 b7 n7 N7 hr6 R2 HSM N5 R5
      go_upto_region 22 with fail
      rw [← hw7]
      clear hw7
      go_wp2_with (go_at_call 10; refine SS.out.mono ?_; rintro q w8 ⟨rfl, b8⟩)
      go_ret
      exact ⟨rfl, B7.out.trans (b8.mono B7.out.size)⟩
end Go.Proofs.YtooaojegdhamjaaDoor
