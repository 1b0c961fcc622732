/-
  The walk of the statement 'ClockParts'. Conditions: the lists lie in memory.
-/
import Derived.Test.YthamaiibknmeeaaTrio
namespace Go.Proofs.Ythamaiibknmeeaa
open Go.RowKit Go.Lib Go.Sort Go.Maps

set_option maxRecDepth 20000 in
set_option maxHeartbeats 4000000 in
theorem parts_walk (a : Option Addr) (n cap : Nat) (f : Nat → Int × Int) (a1 : Option Addr) (n1 cap1 : Nat) (f1 : Nat → Int) (to : Int) (w : World) (hr : DRow w a n f) (hwf : ∀ k, k < n → WfD (f k)) (hn : n ≤ 9223372036854775807) (hr1 : RowI w a1 n1 f1) (hn1 : n1 ≤ 9223372036854775807) :
    Calls Try.prog 4 #[.slice a n cap, .slice a1 n1 cap1, .int .i64 to] w fun e w' => e = .returned (.bool true) ∧ Below w.heap.size w w' := by
  obtain ⟨i0, hi, hz0, hz1, hz2⟩ := info_parts Try.info43
  obtain ⟨m, m1, m2, m3⟩ : ∃ m, m ≤ n ∧ m ≤ 300 ∧ (m = n ∨ m = 300) := ⟨min n 300, by omega, by omega, by omega⟩
  obtain ⟨mm, mm1, mm2, mm3⟩ : ∃ m, m ≤ n1 ∧ m ≤ 100 ∧ (m = n1 ∨ m = 100) := ⟨min n1 100, by omega, by omega, by omega⟩
  have hpos := laidM_pos f m
  have hle := laidN_le f m
  have A := awake_any w
  go_enter Try.func4, Try.ntmps4
  go_wp2_with fail
  go_at_call 8
  refine A.mono ?_
  rintro e w1 ⟨rfl, b1⟩
  clear A
  have LA := laid_any a n cap f w1 (hr.carry b1) hwf hn m m1 m2 m3
  go_wp2_with fail
  go_at_call 21
  refine LA.mono ?_
  rintro e w2 ⟨ca, rfl, F2, b2⟩
  clear LA
  have b2' := b1.trans (b2.mono b1.size)
  have LB := laid_any a n cap f w2 (hr.carry b2') hwf hn m m1 m2 m3
  go_wp2_with fail
  go_at_call 21
  refine LB.mono ?_
  rintro e w3 ⟨cb, rfl, F3, b3⟩
  have b3' := b2'.trans (b3.mono b2'.size)
  obtain ⟨Sa, Sb, T⟩ := trio_of (F2.base b1.size) F3 b3
  clear LB F2 F3 b1 b2 b3 b2'
  generalize laidM f m = M at *
  generalize laidN f m = N at *
  by_cases c1 : to < 0
  · go_wp2
    go_ret
    exact ⟨rfl, b3'⟩
  by_cases c2 : 1099511627776 < to
  · go_wp2
    go_ret
    exact ⟨rfl, b3'⟩
  go_wp2_with fail
  go_loopw [11, 12, 13, 14, 15] (fun v i _ _ _ wr => ∃ (k : Nat) (tb : Int) (nb : Nat) (P : List (Int × Int)), k ≤ mm ∧ i = .int .i64 k ∧ Trio w.heap.size wr ca Sa 0 M N cb Sb tb (fun y => M y ∧ tb < y.1) nb v P ∧ ListOf P (fun y => M y ∧ y.1 ≤ tb) ∧ P.length + nb = N ∧ tb ≤ to ∧ Below w.heap.size w wr) (fun _ i _ _ _ _ => mm - (intOf i).toNat)
  case atStart =>
    refine ⟨0, 0, N, [], Nat.zero_le _, rfl, T.congr fun y => ⟨fun h => h.1, fun h => ⟨h, hpos y h⟩⟩, ⟨.nil, fun y => ⟨fun h => (by cases h), fun h => ?_⟩⟩, by simp, by omega, b3'⟩
    have h1 := hpos y h.1
    have h2 := h.2
    omega
  case round =>
    obtain ⟨k, tb, nb, L0, hk, rfl, T, hL0, hlen, htb, bk⟩ := hrel
    clear hr
    by_cases hlt : k < mm
    · have i1 : (k : Int) < (n1 : Int) := by omega
      have i2 : (k : Int) < 100 := by omega
      obtain ⟨b, off, rfl, hb, hc⟩ := hr1 (by omega)
      have d1 := (bk.cell (p := ⟨b, off + k, none⟩) hb).trans (hc k (by omega))
      clear hc hr1
      by_cases c3 : to < f1 k
      · go_wp2
        go_roundw
        case rel => exact ⟨k + 1, tb, nb, L0, by omega, by go_num, T, hL0, hlen, htb, bk⟩
        case measure => simp [intOf]; omega
      · have NO := now_any T.b
        by_cases c4 : f1 k < tb
        · have AE := advance_early T.b (f1 k) c4
          have c4' : ¬ tb ≤ f1 k := by omega
          have PO := T.p
          go_wp2_with (first
            | (go_at_call 19; refine NO.mono ?_; rintro e w' ⟨rfl, hw⟩; obtain rfl := hw.symm)
            | (go_at_call 14; refine AE.mono ?_; rintro e w' ⟨rfl, hw⟩; obtain rfl := hw.symm)
            | (at_builtin; refine wpList_append_own_none rfl (.tmp 74) (.tmp 75) 26 rfl w.heap.size 43 i0 2 Try.underlying26 hi _ _ _ rfl PO rfl ?_))
          go_roundw
          case rel => exact ⟨k + 1, tb, nb, L0, by omega, by go_num, T, hL0, hlen, htb, bk⟩
          case measure => simp [intOf]; omega
        · have c4' : tb ≤ f1 k := by omega
          have AD := T.adv (f1 k) c4' (by omega)
          go_wp2_with (first
            | (go_at_call 19; refine NO.mono ?_; rintro e w' ⟨rfl, hw⟩; obtain rfl := hw.symm))
          go_at_call 14
          refine AD.mono ?_
          rintro e w4 ⟨u, L, rfl, D4, hL, hLn, T4, k4, b4, hnil⟩
          have bk4 := bk.trans b4
          have d2 := (bk4.cell (p := ⟨b, off + k, none⟩) hb).trans ((bk.cell (p := ⟨b, off + k, none⟩) hb).symm.trans d1)
          have T5 := T4.congr (Mb' := fun y => M y ∧ f1 k < y.1) (fun y => ⟨fun h => ⟨⟨h.1, by omega⟩, h.2⟩, fun h => ⟨h.1.1, h.2⟩⟩)
          have hL5 := list_parts hL0 hL c4'
          have PO := T5.p
          clear AD NO T T4 k4
          by_cases c5 : L = []
          · subst c5
            obtain rfl := hnil rfl
            rw [List.append_nil] at hL5
            go_wp2_with (at_builtin; refine wpList_append_own_none rfl (.tmp 74) (.tmp 75) 26 rfl w.heap.size 43 i0 2 Try.underlying26 hi _ _ _ rfl PO rfl ?_)
            go_roundw
            case rel => exact ⟨k + 1, f1 k, _, L0, by omega, by go_num, T5, hL5, by simpa using hlen, by omega, bk4⟩
            case measure => simp [intOf]; omega
          · obtain ⟨ad, cp, rfl, _, hn0, hLm, hcells⟩ := D4.form
            have hL1 : 0 < L.length := List.length_pos_iff.2 c5
            cases ad with
            | none => have := (hn0 rfl).1; omega
            | some ad =>
              have HC := hcells ad rfl
              have HO := dcl_one L
              have HD := dcl_len L
              have hB := T5.hB
              have hsum : L0.length + L.length ≤ 300 := by omega
              clear hcells D4 hn0
              go_wp2_with (at_builtin; refine wpList_append_lies _ rfl (.tmp 74) (.tmp 75) 26 rfl w.heap.size 43 i0 (.agg #[.int .i64 0, .int .i64 0]) 2 16 Try.underlying26 hi hz0 hz1 hz2 rfl (by decide) _ L0.length (dcl L0) rfl PO ad L.length cp (dcl L) rfl HD HC HO hL1 (by unfold maxLen; omega) (by omega) hB _ rfl ?_; intro g' c' w5 hown' hgrow hat hlt')
              obtain ⟨T6, b6⟩ := T5.appended hown' hgrow hat
              go_roundw
              case rel => exact ⟨k + 1, f1 k, _, L0 ++ L, by omega, by go_num, T6, hL5, by rw [List.length_append]; omega, by omega, bk4.trans b6⟩
              case measure => simp [intOf]; omega
    · obtain rfl : k = mm := by omega
      have AD := T.adv to htb (by omega)
      by_cases c : k < n1
      · have i1 : (k : Int) < (n1 : Int) := by omega
        have i2 : ¬ (k : Int) < 100 := by omega
        clear mm1 mm2 mm3 hlt hk
        go_wp2_with fail
        go_at_call 14
        refine AD.mono ?_
        rintro e w4 ⟨u, L, rfl, D4, hL, hLn, T4, k4, b4, hnil⟩
        have bk4 := bk.trans b4
        have hL5 := list_parts hL0 hL htb
        have hSa := T.a.lt
        have AA := T4.symm.adv to (by omega) (by omega)
        clear AD T k4
        go_wp2_with fail
        go_at_call 14
        refine AA.mono ?_
        rintro e w5 ⟨u5, L5, rfl, D5, hL5', _, T5, k5, b5, _⟩
        have bk5 := bk4.trans b5
        obtain rfl := hL5'.unique hL5 fun y => Iff.rfl
        have D4' : DOwn wr.heap.size w5 u L := D4.kept k5 fun g e hs => by
          have := (World.ownsRow.lt D4 g e).1
          have := hSa g hs
          omega
        have PO := T5.p
        have hlt4 := fun g e => (World.ownsRow.lt T4.p g e).2
        clear AA T4 D4 k5
        by_cases c5 : L = []
        · subst c5
          obtain rfl := hnil rfl
          rw [List.append_nil] at D5
          have SM := DOwn.same PO D5
          go_wp2_with (first
            | (at_builtin; refine append_none_guarded rfl (.tmp 96) (.tmp 97) 26 rfl w.heap.size 43 i0 2 Try.underlying26 hi _ _ _ rfl PO rfl ?_)
            | (go_at_call 16; refine SM.mono ?_; rintro e w6 ⟨rfl, b6⟩))
          go_ret
          exact ⟨rfl, bk5.trans (b6.mono bk5.size)⟩
        · obtain ⟨ad, cp, rfl, _, hn0, hLm, hcells⟩ := D4'.form
          have hL1 : 0 < L.length := List.length_pos_iff.2 c5
          cases ad with
          | none => have := (hn0 rfl).1; omega
          | some ad =>
            have HC := hcells ad rfl
            have HO := dcl_one L
            have HD := dcl_len L
            have hB := T5.hB
            have hsum : L0.length + L.length ≤ 300 := by omega
            clear hcells D4' hn0
            go_wp2_with (at_builtin; refine append_guarded _ rfl (.tmp 96) (.tmp 97) 26 rfl w.heap.size 43 i0 (.agg #[.int .i64 0, .int .i64 0]) 2 16 Try.underlying26 hi hz0 hz1 hz2 rfl (by decide) _ L0.length (dcl L0) rfl PO ad L.length cp (dcl L) rfl HD HC HO hL1 (by unfold maxLen; omega) (by omega) hB _ rfl ?_; intro g' c' w6 hown' hgrow hat hlt'; obtain ⟨T6, b6⟩ := T5.appended hown' hgrow hat; have D6 := D5.kept (Kept.of_grown hgrow fun j e => e) fun g e hs => (by have := (World.ownsRow.lt D5 g e).1; have := hlt4 g hs; omega))
            have SM := DOwn.same T6.p D6
            go_at_call 16
            refine SM.mono ?_
            rintro e w7 ⟨rfl, b7⟩
            have bk6 := bk5.trans b6
            go_wp2
            go_ret
            exact ⟨rfl, bk6.trans (b7.mono bk6.size)⟩
      · have i1 : ¬ (k : Int) < (n1 : Int) := by omega
        clear mm1 mm2 mm3 hlt hk
        go_wp2_with fail
        go_at_call 14
        refine AD.mono ?_
        rintro e w4 ⟨u, L, rfl, D4, hL, hLn, T4, k4, b4, hnil⟩
        have bk4 := bk.trans b4
        have hL5 := list_parts hL0 hL htb
        have hSa := T.a.lt
        have AA := T4.symm.adv to (by omega) (by omega)
        clear AD T k4
        go_wp2_with fail
        go_at_call 14
        refine AA.mono ?_
        rintro e w5 ⟨u5, L5, rfl, D5, hL5', _, T5, k5, b5, _⟩
        have bk5 := bk4.trans b5
        obtain rfl := hL5'.unique hL5 fun y => Iff.rfl
        have D4' : DOwn wr.heap.size w5 u L := D4.kept k5 fun g e hs => by
          have := (World.ownsRow.lt D4 g e).1
          have := hSa g hs
          omega
        have PO := T5.p
        have hlt4 := fun g e => (World.ownsRow.lt T4.p g e).2
        clear AA T4 D4 k5
        by_cases c5 : L = []
        · subst c5
          obtain rfl := hnil rfl
          rw [List.append_nil] at D5
          have SM := DOwn.same PO D5
          go_wp2_with (first
            | (at_builtin; refine append_none_guarded rfl (.tmp 96) (.tmp 97) 26 rfl w.heap.size 43 i0 2 Try.underlying26 hi _ _ _ rfl PO rfl ?_)
            | (go_at_call 16; refine SM.mono ?_; rintro e w6 ⟨rfl, b6⟩))
          go_ret
          exact ⟨rfl, bk5.trans (b6.mono bk5.size)⟩
        · obtain ⟨ad, cp, rfl, _, hn0, hLm, hcells⟩ := D4'.form
          have hL1 : 0 < L.length := List.length_pos_iff.2 c5
          cases ad with
          | none => have := (hn0 rfl).1; omega
          | some ad =>
            have HC := hcells ad rfl
            have HO := dcl_one L
            have HD := dcl_len L
            have hB := T5.hB
            have hsum : L0.length + L.length ≤ 300 := by omega
            clear hcells D4' hn0
            go_wp2_with (at_builtin; refine append_guarded _ rfl (.tmp 96) (.tmp 97) 26 rfl w.heap.size 43 i0 (.agg #[.int .i64 0, .int .i64 0]) 2 16 Try.underlying26 hi hz0 hz1 hz2 rfl (by decide) _ L0.length (dcl L0) rfl PO ad L.length cp (dcl L) rfl HD HC HO hL1 (by unfold maxLen; omega) (by omega) hB _ rfl ?_; intro g' c' w6 hown' hgrow hat hlt'; obtain ⟨T6, b6⟩ := T5.appended hown' hgrow hat; have D6 := D5.kept (Kept.of_grown hgrow fun j e => e) fun g e hs => (by have := (World.ownsRow.lt D5 g e).1; have := hlt4 g hs; omega))
            have SM := DOwn.same T6.p D6
            go_at_call 16
            refine SM.mono ?_
            rintro e w7 ⟨rfl, b7⟩
            have bk6 := bk5.trans b6
            go_wp2
            go_ret
            exact ⟨rfl, bk6.trans (b7.mono bk6.size)⟩
end Go.Proofs.Ythamaiibknmeeaa
