/-
  'filledSchemas' of fill: the schemas in memory of their own, and those that lack.
-/
import Derived.Test.YtijjpblmnlednaaGreatDoorE24
namespace Go.Proofs.YtijjpblmnlednaaGreatDoor
open Go.RowKit
structure FSc (w : World) (S : List Sc) (e : Ending) (w' : World) : Prop where
  ex : ∃ v' V', e = .returned v' ∧ ScW w.heap.size w' v' S V'
  bel : Below w.heap.size w w'
/-- Schemas of which i have rules of their own. -/
structure CS (w wr : World) (S : List Sc) (v : Value) (V : List Value) (i : Nat) : Prop where
  bel : Below w.heap.size w wr
  ex : ∃ V' : List Value, V'.length = S.length ∧ wr.ownsRow w.heap.size 53 5 v S.length (scCs S V') ∧ (∀ k (h : k < S.length) (h' : k < V'.length), k < i → RlW w.heap.size wr V'[k] S[k].rules) ∧ (∀ k, i ≤ k → V'[k]? = V[k]?) ∧ ∀ p q (hp : p < V'.length) (hq : q < V'.length), p < q → q < i → ∀ g, V'[p].ownBlock = some g → V'[q].ownBlock ≠ some g
theorem CS.done {w wr : World} {S : List Sc} {v : Value} {V : List Value} (h : CS w wr S v V S.length) : ∃ V', ScW w.heap.size wr v S V' := by
  obtain ⟨V', hl, ho, hr, -, hd⟩ := h.ex
  exact ⟨V', hl, ho, fun k h1 h2 => hr k h1 h2 h1, fun p q hp hq hpq g hg => hd p q hp hq hpq (by omega) g hg⟩
theorem CS.step {w wr w5 : World} {S : List Sc} {g n c : Nat} {V : List Value} {i : Nat} (h : CS w wr S (.slice (some ⟨g, 0, none⟩) n c) V i) (hi : i < S.length) (hn : n = S.length) (b5 : Below wr.heap.size wr w5) (u : Value) (hu : RlW wr.heap.size w5 u S[i].rules) :
    (∃ y, w5.cell? ⟨g, i * 5 + 4, none⟩ = some y) ∧ w5.frozen? ⟨g, i * 5 + 4, none⟩ = false ∧ CS w (w5.setCell ⟨g, i * 5 + 4, none⟩ u) S (.slice (some ⟨g, 0, none⟩) n c) V (i + 1) := by
  subst hn
  obtain ⟨V', hl, ho, hr, hs, hd⟩ := h.ex
  have K5 : Kept (fun _ => False) wr w5 := Kept.of_below b5 _
  have o5 := owns_off ho K5 (Off.none _ _)
  obtain ⟨a, c', e, -, hrow⟩ := owns_read o5
  injection e with e1 _ e3
  subst e3
  obtain ⟨g', cur, e4, hB, hg, hsz, hcs⟩ := hrow (by omega)
  rw [e4] at e1
  injection e1 with e1
  injection e1 with e1
  subst e1
  have h1 := scCs_at S V' i 4 hi (by omega) (by decide)
  refine ⟨⟨_, hcs _ _ h1⟩, hg.frozen _, ?_⟩
  have KS : Kept (fun k => k = g) w5 (w5.setCell ⟨g, i * 5 + 4, none⟩ u) := (Kept.refl (fun k => k = g) w5).setCell _ _ (.inl rfl)
  have o9 := off_blk hg (by decide : 53 ≠ 9)
  have o37 := off_blk hg (by decide : 53 ≠ 50)
  have own := owns_set o5 (i * 5 + 4) u
  rw [scCs_set S V' i u hi (by omega)] at own
  have b0 := h.bel
  have bs := b5.size
  have b1 := b0.size
  refine ⟨(b0.trans (b5.mono b1)).trans (KS.below (by omega) (fun k hk => by rw [hk]; exact hB)), V'.set i u, by simpa using hl, own, fun k h1 h2 h3 => ?_, fun k hk => ?_, fun p q hp hq hpq hqi b hb => ?_⟩
  · by_cases e : k = i
    · subst e
      rw [List.getElem_set_self]
      exact (hu.mono b1).off KS o9 o37
    · rw [List.getElem_set_ne (fun h => e h.symm)]
      exact ((hr k h1 (by simpa using h2) (by omega)).off K5 (Off.none _ _) (Off.none _ _)).off KS o9 o37
  · rw [List.getElem?_set_ne (by omega)]
    exact hs k (by omega)
  · simp only [List.length_set] at hp hq
    rw [List.getElem_set_ne (by omega)] at hb
    by_cases e : q = i
    · subst e
      rw [List.getElem_set_self]
      intro hb'
      have h2 := (hu.lt hb').1
      have h3 := ((hr p (by omega) (by simpa using hp) (by omega)).lt hb).2
      omega
    · rw [List.getElem_set_ne (fun h => e h.symm)]
      exact hd p q hp hq hpq (by omega) b hb
set_option maxRecDepth 20000 in
set_option maxHeartbeats 8000000 in
theorem fillSc_ok (a : Option Addr) (c : Nat) (S : List Sc) (V : List Value) (w : World) (hr : ScR w a S V) (hV : V.length = S.length) (hR : ∀ k (h : k < S.length) (h' : k < V.length), RlR w V[k] S[k].rules) (h8 : S.length ≤ 900) (hN : ∀ s ∈ S, s.rules.length ≤ 1000 ∧ ∀ r ∈ s.rules, RlN 1000 r) :
    Calls Tryz.prog 27 #[.slice a S.length c] w fun e w' => FSc w (fillS S) e w' := by
  obtain ⟨i0, hi, hz0, hz1, hz2⟩ := info_parts info40c
  have CP := cpSc_ok a S.length c (scCs S V) w (by rw [scCs_len S V hV]) (fun hn => hr.news hV hn) (scCs_one S V hR) (by omega)
  have HR : Hd (ScR w a S V ∧ V.length = S.length) := ⟨hr, hV⟩
  have HRU : Hd (∀ k (h : k < S.length) (h' : k < V.length) W, Below w.heap.size w W → Calls Tryz.prog 55 #[V[k]] W fun e w' => FRl W S[k].rules e w') := ⟨fun k h h' W b => cpRules_ok _ _ W ((hR k h h').carry b) (hN _ (List.getElem_mem h)).1 (hN _ (List.getElem_mem h)).2⟩
  have HL : Hd (S.length ≤ 900) := ⟨h8⟩
  have QE : Hd (∀ W, Below w.heap.size w W → Calls Tryz.prog 56 #[.slice a S.length c, .string ⟨#[101, 120, 101, 109, 112, 116]⟩] W fun e w' => e = .returned (.bool (anyS S tExempt)) ∧ Below W.heap.size W w') := ⟨fun W b => hasSc_ok a c S V tExempt W (HR.out.1.carry b) hV (by have := HL.out; omega)⟩
  have QC : Hd (∀ W, Below w.heap.size w W → Calls Tryz.prog 56 #[.slice a S.length c, .string ⟨#[99, 97, 116, 99, 104, 45, 97, 108, 108]⟩] W fun e w' => e = .returned (.bool (anyS S tCatch)) ∧ Below W.heap.size W w') := ⟨fun W b => hasSc_ok a c S V tCatch W (HR.out.1.carry b) hV (by have := HL.out; omega)⟩
  have HF : Hd (fillS S = putX (anyS S tCatch) (putX (anyS S tExempt) S scX) scY) := ⟨rfl⟩
  generalize fillS S = R at *
  generalize anyS S tExempt = bE at *
  generalize anyS S tCatch = bC at *
  have HSL : Hd (∀ k (h' : k < V.length), ∃ x y z, V[k] = .slice x y z) := ⟨fun k h' => by obtain ⟨x, z, e, -⟩ := hR k (by omega) h'; exact ⟨x, _, z, e⟩⟩
  obtain ⟨n, hn⟩ : ∃ n, n = S.length := ⟨_, rfl⟩
  have HN : Hd (n = S.length) := ⟨hn⟩
  rw [← hn] at CP QE QC HL ⊢
  clear hr h8 hn hR hN hV
  go_enter Tryz.func27, Tryz.ntmps27
  go_wp2_with fail
  go_at_call 54
  refine CP.mono ?_
  rintro e w1 ⟨⟨v1, rfl, o1⟩, b1⟩
  have C1 : Hd (CS w w1 S v1 V 0) := ⟨b1, V, HR.out.2, by rw [← HN.out]; exact o1, fun k _ _ h => absurd h (Nat.not_lt_zero _), fun _ _ => rfl, fun p q _ _ _ h => absurd h (Nat.not_lt_zero _)⟩
  obtain ⟨a1, c1, rfl, hc1, -⟩ := owns_read o1
  have n9 : n ≤ 900 := HL.out
  clear CP o1 b1
  go_upto_region 3 with fail
  go_loopw [9] (fun i wr => ∃ k : Nat, k ≤ n ∧ i = .int .i64 k ∧ Hd (CS w wr S (.slice a1 n c1) V k)) (fun i _ => n - (intOf i).toNat)
  case atStart => exact ⟨0, Nat.zero_le _, rfl, C1⟩
  case round =>
    obtain ⟨k, hk, rfl, hC⟩ := hrel
    clear C1
    by_cases hlt : k < n
    · have hkr : k < S.length := by rw [← HN.out]; exact hlt
      have hkV : k < V.length := by rw [HR.out.2]; exact hkr
      obtain ⟨V', hl', ho, hr', hs', -⟩ := hC.out.ex
      obtain ⟨a2, c2, e2, -, hrow⟩ := owns_read ho
      injection e2 with q1 q2 q3
      subst q1 q3
      obtain ⟨g, cur, rfl, hB, hg, hsz, hcs⟩ := hrow (by omega)
      have Ek : V'[k]'(by omega) = V[k] := by
        have := hs' k (Nat.le_refl _)
        rw [List.getElem?_eq_getElem (by omega), List.getElem?_eq_getElem hkV] at this
        exact Option.some.inj this
      have z4 : wr.cell? ⟨g, k * 5 + 4, none⟩ = some V[k] := by
        rw [← Ek]
        exact hcs _ _ (scCs_at S V' k 4 hkr (by omega) (by decide))
      have RC := HRU.out k hkr hkV wr hC.out.bel
      have STEP : Hd _ := ⟨fun w5 b5 u hu => hC.out.step (w5 := w5) hkr HN.out b5 u hu⟩
      have HK : Hd (k < n) := ⟨hlt⟩
      obtain ⟨x, y, z, e⟩ := HSL.out k hkV
      rw [e] at z4 RC
      clear hcs hrow ho hr' hs' hC Ek hl' hg hsz hB q2 e
      go_wp2_with fail
      go_at_call 55
      refine RC.mono ?_
      rintro e w5 ⟨⟨u, rfl, hu⟩, b5⟩
      obtain ⟨⟨y4, z5⟩, f5, NX⟩ := STEP.out w5 b5 u hu
      obtain ⟨ux, uy, rfl⟩ := hu.shape
      have HX : Hd _ := ⟨NX⟩
      clear NX STEP RC hu b5 z4
      go_wp2_with fail
      go_roundw
      case rel => exact ⟨k + 1, HK.out, by go_num, HX⟩
      case measure => have := HK.out; simp [intOf]; omega
    · obtain rfl : k = n := by omega
      obtain ⟨V1, O1⟩ : ∃ V', ScW w.heap.size wr (.slice a1 k c1) S V' := CS.done (V := V) (by have e := hC.out; have e2 := HN.out; rw [← e2]; exact e)
      have B1 := hC.out.bel
      have P1 := QE.out wr B1
      clear hC HRU HSL
      go_wp2_with fail
      go_at_call 56
      refine P1.mono ?_
      rintro e w2 ⟨rfl, b2⟩
      have O2 := O1.grown b2
      have B2 : Below w.heap.size w w2 := B1.trans (b2.mono B1.size)
      clear P1 O1 B1 b2
      cases bE <;> cases bC
      · have HF2 : Hd (R = (S ++ [scX]) ++ [scY]) := ⟨HF.out⟩
        clear HF
        have PX := scX_ok w2
        go_wp2_with fail
        go_at_call 57
        refine PX.mono ?_
        rintro e y3 ⟨⟨u3, rfl, r3⟩, c3⟩
        obtain ⟨ua3, uc3, hu3⟩ := r3.shape
        replace hu3 : u3 = .slice ua3 1 uc3 := hu3
        subst hu3
        unfold scV scX tExempt
        have AL := alloc_below y3 (.cells #[.string ⟨#[101, 120, 101, 109, 112, 116]⟩, .string ⟨#[101, 120, 101, 109, 112, 116]⟩, .int .i64 1, .int .i64 0, .slice ua3 1 uc3] 53)
        have Y3 : ScW w.heap.size (y3.alloc (.cells #[.string ⟨#[101, 120, 101, 109, 112, 116]⟩, .string ⟨#[101, 120, 101, 109, 112, 116]⟩, .int .i64 1, .int .i64 0, .slice ua3 1 uc3] 53)) (.slice a1 k c1) S V1 := (ScW.grown O2 c3).grown AL
        have RR3 : RlW w.heap.size (y3.alloc (.cells #[.string ⟨#[101, 120, 101, 109, 112, 116]⟩, .string ⟨#[101, 120, 101, 109, 112, 116]⟩, .int .i64 1, .int .i64 0, .slice ua3 1 uc3] 53)) (.slice ua3 1 uc3) scX.rules := (r3.mono B2.size).off (Kept.of_below AL (fun _ => False)) (Off.none _ _) (Off.none _ _)
        have FR3 : ∀ j (h : j < (V1).length) g, (V1)[j].ownBlock = some g → (Value.slice ua3 1 uc3).ownBlock ≠ some g := fun j h g hg hg2 => by have h1 := (((O2).rls j (by have := (O2).len; omega) h).lt hg).2; have h2 := (r3.lt hg2).1; omega
        have OW3 := Y3.own
        rw [← HN.out] at OW3
        have NW3 := World.news_of_block (Blk.new y3 53 #[.string ⟨#[101, 120, 101, 109, 112, 116]⟩, .string ⟨#[101, 120, 101, 109, 112, 116]⟩, .int .i64 1, .int .i64 0, .slice ua3 1 uc3])
        have ON3 : ∀ u ∈ (#[.string ⟨#[101, 120, 101, 109, 112, 116]⟩, .string ⟨#[101, 120, 101, 109, 112, 116]⟩, .int .i64 1, .int .i64 0, .slice ua3 1 uc3] : Array Value).toList, u.oneCell' = true := scC_one RR3 scX
        have BB3 : Hd (Below w.heap.size w (y3.alloc (.cells #[.string ⟨#[101, 120, 101, 109, 112, 116]⟩, .string ⟨#[101, 120, 101, 109, 112, 116]⟩, .int .i64 1, .int .i64 0, .slice ua3 1 uc3] 53))) := ⟨(B2.trans (c3.mono B2.size)).trans (AL.mono (Nat.le_trans B2.size c3.size))⟩
        have SZ3 : w.heap.size ≤ (y3.alloc (.cells #[.string ⟨#[101, 120, 101, 109, 112, 116]⟩, .string ⟨#[101, 120, 101, 109, 112, 116]⟩, .int .i64 1, .int .i64 0, .slice ua3 1 uc3] 53)).heap.size := BB3.out.size
        have HY3 : Hd _ := ⟨And.intro Y3 (And.intro RR3 FR3)⟩
        clear AL PX r3 c3 Y3 RR3 FR3 O2 B2
        go_wp2_with (at_builtin; go_loud (refine wpList_append_own _ rfl _ _ 23 rfl w.heap.size 53 i0 (.agg #[.string ByteArray.empty, .string ByteArray.empty, .int .i64 0, .int .i64 0, .slice none 0 0]) 5 72 Tryz.underlying23 hi hz0 hz1 hz2 rfl (by decide) _ _ _ rfl OW3 ⟨y3.heap.size, 0, none⟩ 1 1 (#[.string ⟨#[101, 120, 101, 109, 112, 116]⟩, .string ⟨#[101, 120, 101, 109, 112, 116]⟩, .int .i64 1, .int .i64 0, .slice ua3 1 uc3] : Array Value).toList rfl rfl NW3 ON3 (by have := HL.out; unfold maxLen; first | omega | (simp only [List.length_singleton]; omega)) (by have := HL.out; first | omega | (simp only [List.length_singleton]; omega)) SZ3 ?_; intro v3 w3 h3 g3 _))
        have O3 : ScW w.heap.size w3 v3 (S ++ [scX]) (V1 ++ [.slice ua3 1 uc3]) := ScW.put HY3.out.1 HY3.out.2.1 HY3.out.2.2 (by rw [← HN.out]; exact h3) g3
        have B3 : Below w.heap.size w w3 := BB3.out.grown g3 SZ3 (fun x hx => (OW3.lt x hx).1)
        clear h3 g3 OW3 NW3 ON3 BB3 SZ3 HY3
        have P2 := QC.out w3 B3
        go_wp2_with fail
        go_at_call 56
        refine P2.mono ?_
        rintro e w4 ⟨rfl, b4⟩
        have O4 := ScW.grown O3 b4
        have B4 : Below w.heap.size w w4 := B3.trans (b4.mono B3.size)
        clear P2 b4 O3 B3
        have PX := scY_ok w4
        go_wp2_with fail
        go_at_call 58
        refine PX.mono ?_
        rintro e y5 ⟨⟨u5, rfl, r5⟩, c5⟩
        obtain ⟨ua5, uc5, hu5⟩ := r5.shape
        replace hu5 : u5 = .slice ua5 1 uc5 := hu5
        subst hu5
        unfold scV scY tCatch
        have AL := alloc_below y5 (.cells #[.string ⟨#[99, 97, 116, 99, 104, 45, 97, 108, 108]⟩, .string ⟨#[99, 97, 116, 99, 104, 45, 97, 108, 108]⟩, .int .i64 10000, .int .i64 1, .slice ua5 1 uc5] 53)
        have Y5 : ScW w.heap.size (y5.alloc (.cells #[.string ⟨#[99, 97, 116, 99, 104, 45, 97, 108, 108]⟩, .string ⟨#[99, 97, 116, 99, 104, 45, 97, 108, 108]⟩, .int .i64 10000, .int .i64 1, .slice ua5 1 uc5] 53)) (v3) (S ++ [scX]) (V1 ++ [Value.slice ua3 1 uc3]) := (ScW.grown O4 c5).grown AL
        have RR5 : RlW w.heap.size (y5.alloc (.cells #[.string ⟨#[99, 97, 116, 99, 104, 45, 97, 108, 108]⟩, .string ⟨#[99, 97, 116, 99, 104, 45, 97, 108, 108]⟩, .int .i64 10000, .int .i64 1, .slice ua5 1 uc5] 53)) (.slice ua5 1 uc5) scY.rules := (r5.mono B4.size).off (Kept.of_below AL (fun _ => False)) (Off.none _ _) (Off.none _ _)
        have FR5 : ∀ j (h : j < ((V1 ++ [Value.slice ua3 1 uc3])).length) g, ((V1 ++ [Value.slice ua3 1 uc3]))[j].ownBlock = some g → (Value.slice ua5 1 uc5).ownBlock ≠ some g := fun j h g hg hg2 => by have h1 := (((O4).rls j (by have := (O4).len; omega) h).lt hg).2; have h2 := (r5.lt hg2).1; omega
        have OW5 := Y5.own
        rw [List.length_append, ← HN.out] at OW5
        have NW5 := World.news_of_block (Blk.new y5 53 #[.string ⟨#[99, 97, 116, 99, 104, 45, 97, 108, 108]⟩, .string ⟨#[99, 97, 116, 99, 104, 45, 97, 108, 108]⟩, .int .i64 10000, .int .i64 1, .slice ua5 1 uc5])
        have ON5 : ∀ u ∈ (#[.string ⟨#[99, 97, 116, 99, 104, 45, 97, 108, 108]⟩, .string ⟨#[99, 97, 116, 99, 104, 45, 97, 108, 108]⟩, .int .i64 10000, .int .i64 1, .slice ua5 1 uc5] : Array Value).toList, u.oneCell' = true := scC_one RR5 scY
        have BB5 : Hd (Below w.heap.size w (y5.alloc (.cells #[.string ⟨#[99, 97, 116, 99, 104, 45, 97, 108, 108]⟩, .string ⟨#[99, 97, 116, 99, 104, 45, 97, 108, 108]⟩, .int .i64 10000, .int .i64 1, .slice ua5 1 uc5] 53))) := ⟨(B4.trans (c5.mono B4.size)).trans (AL.mono (Nat.le_trans B4.size c5.size))⟩
        have SZ5 : w.heap.size ≤ (y5.alloc (.cells #[.string ⟨#[99, 97, 116, 99, 104, 45, 97, 108, 108]⟩, .string ⟨#[99, 97, 116, 99, 104, 45, 97, 108, 108]⟩, .int .i64 10000, .int .i64 1, .slice ua5 1 uc5] 53)).heap.size := BB5.out.size
        have HY5 : Hd _ := ⟨And.intro Y5 (And.intro RR5 FR5)⟩
        clear AL PX r5 c5 Y5 RR5 FR5 O4 B4
        go_wp2_with (at_builtin; go_loud (refine wpList_append_own _ rfl _ _ 23 rfl w.heap.size 53 i0 (.agg #[.string ByteArray.empty, .string ByteArray.empty, .int .i64 0, .int .i64 0, .slice none 0 0]) 5 72 Tryz.underlying23 hi hz0 hz1 hz2 rfl (by decide) _ _ _ rfl OW5 ⟨y5.heap.size, 0, none⟩ 1 1 (#[.string ⟨#[99, 97, 116, 99, 104, 45, 97, 108, 108]⟩, .string ⟨#[99, 97, 116, 99, 104, 45, 97, 108, 108]⟩, .int .i64 10000, .int .i64 1, .slice ua5 1 uc5] : Array Value).toList rfl rfl NW5 ON5 (by have := HL.out; unfold maxLen; first | omega | (simp only [List.length_singleton]; omega)) (by have := HL.out; first | omega | (simp only [List.length_singleton]; omega)) SZ5 ?_; intro v5 w5 h5 g5 _))
        have O5 : ScW w.heap.size w5 v5 ((S ++ [scX]) ++ [scY]) ((V1 ++ [Value.slice ua3 1 uc3]) ++ [.slice ua5 1 uc5]) := ScW.put HY5.out.1 HY5.out.2.1 HY5.out.2.2 (by rw [List.length_append]; rw [← HN.out]; exact h5) g5
        have B5 : Below w.heap.size w w5 := BB5.out.grown g5 SZ5 (fun x hx => (OW5.lt x hx).1)
        clear h5 g5 OW5 NW5 ON5 BB5 SZ5 HY5
        go_wp2_with fail
        go_ret
        exact ⟨⟨_, _, rfl, by rw [HF2.out]; exact O5⟩, B5⟩
      · have HF2 : Hd (R = S ++ [scX]) := ⟨HF.out⟩
        clear HF
        have PX := scX_ok w2
        go_wp2_with fail
        go_at_call 57
        refine PX.mono ?_
        rintro e y3 ⟨⟨u3, rfl, r3⟩, c3⟩
        obtain ⟨ua3, uc3, hu3⟩ := r3.shape
        replace hu3 : u3 = .slice ua3 1 uc3 := hu3
        subst hu3
        unfold scV scX tExempt
        have AL := alloc_below y3 (.cells #[.string ⟨#[101, 120, 101, 109, 112, 116]⟩, .string ⟨#[101, 120, 101, 109, 112, 116]⟩, .int .i64 1, .int .i64 0, .slice ua3 1 uc3] 53)
        have Y3 : ScW w.heap.size (y3.alloc (.cells #[.string ⟨#[101, 120, 101, 109, 112, 116]⟩, .string ⟨#[101, 120, 101, 109, 112, 116]⟩, .int .i64 1, .int .i64 0, .slice ua3 1 uc3] 53)) (.slice a1 k c1) S V1 := (ScW.grown O2 c3).grown AL
        have RR3 : RlW w.heap.size (y3.alloc (.cells #[.string ⟨#[101, 120, 101, 109, 112, 116]⟩, .string ⟨#[101, 120, 101, 109, 112, 116]⟩, .int .i64 1, .int .i64 0, .slice ua3 1 uc3] 53)) (.slice ua3 1 uc3) scX.rules := (r3.mono B2.size).off (Kept.of_below AL (fun _ => False)) (Off.none _ _) (Off.none _ _)
        have FR3 : ∀ j (h : j < (V1).length) g, (V1)[j].ownBlock = some g → (Value.slice ua3 1 uc3).ownBlock ≠ some g := fun j h g hg hg2 => by have h1 := (((O2).rls j (by have := (O2).len; omega) h).lt hg).2; have h2 := (r3.lt hg2).1; omega
        have OW3 := Y3.own
        rw [← HN.out] at OW3
        have NW3 := World.news_of_block (Blk.new y3 53 #[.string ⟨#[101, 120, 101, 109, 112, 116]⟩, .string ⟨#[101, 120, 101, 109, 112, 116]⟩, .int .i64 1, .int .i64 0, .slice ua3 1 uc3])
        have ON3 : ∀ u ∈ (#[.string ⟨#[101, 120, 101, 109, 112, 116]⟩, .string ⟨#[101, 120, 101, 109, 112, 116]⟩, .int .i64 1, .int .i64 0, .slice ua3 1 uc3] : Array Value).toList, u.oneCell' = true := scC_one RR3 scX
        have BB3 : Hd (Below w.heap.size w (y3.alloc (.cells #[.string ⟨#[101, 120, 101, 109, 112, 116]⟩, .string ⟨#[101, 120, 101, 109, 112, 116]⟩, .int .i64 1, .int .i64 0, .slice ua3 1 uc3] 53))) := ⟨(B2.trans (c3.mono B2.size)).trans (AL.mono (Nat.le_trans B2.size c3.size))⟩
        have SZ3 : w.heap.size ≤ (y3.alloc (.cells #[.string ⟨#[101, 120, 101, 109, 112, 116]⟩, .string ⟨#[101, 120, 101, 109, 112, 116]⟩, .int .i64 1, .int .i64 0, .slice ua3 1 uc3] 53)).heap.size := BB3.out.size
        have HY3 : Hd _ := ⟨And.intro Y3 (And.intro RR3 FR3)⟩
        clear AL PX r3 c3 Y3 RR3 FR3 O2 B2
        go_wp2_with (at_builtin; go_loud (refine wpList_append_own _ rfl _ _ 23 rfl w.heap.size 53 i0 (.agg #[.string ByteArray.empty, .string ByteArray.empty, .int .i64 0, .int .i64 0, .slice none 0 0]) 5 72 Tryz.underlying23 hi hz0 hz1 hz2 rfl (by decide) _ _ _ rfl OW3 ⟨y3.heap.size, 0, none⟩ 1 1 (#[.string ⟨#[101, 120, 101, 109, 112, 116]⟩, .string ⟨#[101, 120, 101, 109, 112, 116]⟩, .int .i64 1, .int .i64 0, .slice ua3 1 uc3] : Array Value).toList rfl rfl NW3 ON3 (by have := HL.out; unfold maxLen; first | omega | (simp only [List.length_singleton]; omega)) (by have := HL.out; first | omega | (simp only [List.length_singleton]; omega)) SZ3 ?_; intro v3 w3 h3 g3 _))
        have O3 : ScW w.heap.size w3 v3 (S ++ [scX]) (V1 ++ [.slice ua3 1 uc3]) := ScW.put HY3.out.1 HY3.out.2.1 HY3.out.2.2 (by rw [← HN.out]; exact h3) g3
        have B3 : Below w.heap.size w w3 := BB3.out.grown g3 SZ3 (fun x hx => (OW3.lt x hx).1)
        clear h3 g3 OW3 NW3 ON3 BB3 SZ3 HY3
        have P2 := QC.out w3 B3
        go_wp2_with fail
        go_at_call 56
        refine P2.mono ?_
        rintro e w4 ⟨rfl, b4⟩
        have O4 := ScW.grown O3 b4
        have B4 : Below w.heap.size w w4 := B3.trans (b4.mono B3.size)
        clear P2 b4 O3 B3
        go_wp2_with fail
        go_ret
        exact ⟨⟨_, _, rfl, by rw [HF2.out]; exact O4⟩, B4⟩
      · have HF2 : Hd (R = S ++ [scY]) := ⟨HF.out⟩
        clear HF
        have P2 := QC.out w2 B2
        go_wp2_with fail
        go_at_call 56
        refine P2.mono ?_
        rintro e w4 ⟨rfl, b4⟩
        have O4 := ScW.grown O2 b4
        have B4 : Below w.heap.size w w4 := B2.trans (b4.mono B2.size)
        clear P2 b4 O2 B2
        have PX := scY_ok w4
        go_wp2_with fail
        go_at_call 58
        refine PX.mono ?_
        rintro e y5 ⟨⟨u5, rfl, r5⟩, c5⟩
        obtain ⟨ua5, uc5, hu5⟩ := r5.shape
        replace hu5 : u5 = .slice ua5 1 uc5 := hu5
        subst hu5
        unfold scV scY tCatch
        have AL := alloc_below y5 (.cells #[.string ⟨#[99, 97, 116, 99, 104, 45, 97, 108, 108]⟩, .string ⟨#[99, 97, 116, 99, 104, 45, 97, 108, 108]⟩, .int .i64 10000, .int .i64 1, .slice ua5 1 uc5] 53)
        have Y5 : ScW w.heap.size (y5.alloc (.cells #[.string ⟨#[99, 97, 116, 99, 104, 45, 97, 108, 108]⟩, .string ⟨#[99, 97, 116, 99, 104, 45, 97, 108, 108]⟩, .int .i64 10000, .int .i64 1, .slice ua5 1 uc5] 53)) (.slice a1 k c1) S V1 := (ScW.grown O4 c5).grown AL
        have RR5 : RlW w.heap.size (y5.alloc (.cells #[.string ⟨#[99, 97, 116, 99, 104, 45, 97, 108, 108]⟩, .string ⟨#[99, 97, 116, 99, 104, 45, 97, 108, 108]⟩, .int .i64 10000, .int .i64 1, .slice ua5 1 uc5] 53)) (.slice ua5 1 uc5) scY.rules := (r5.mono B4.size).off (Kept.of_below AL (fun _ => False)) (Off.none _ _) (Off.none _ _)
        have FR5 : ∀ j (h : j < (V1).length) g, (V1)[j].ownBlock = some g → (Value.slice ua5 1 uc5).ownBlock ≠ some g := fun j h g hg hg2 => by have h1 := (((O4).rls j (by have := (O4).len; omega) h).lt hg).2; have h2 := (r5.lt hg2).1; omega
        have OW5 := Y5.own
        rw [← HN.out] at OW5
        have NW5 := World.news_of_block (Blk.new y5 53 #[.string ⟨#[99, 97, 116, 99, 104, 45, 97, 108, 108]⟩, .string ⟨#[99, 97, 116, 99, 104, 45, 97, 108, 108]⟩, .int .i64 10000, .int .i64 1, .slice ua5 1 uc5])
        have ON5 : ∀ u ∈ (#[.string ⟨#[99, 97, 116, 99, 104, 45, 97, 108, 108]⟩, .string ⟨#[99, 97, 116, 99, 104, 45, 97, 108, 108]⟩, .int .i64 10000, .int .i64 1, .slice ua5 1 uc5] : Array Value).toList, u.oneCell' = true := scC_one RR5 scY
        have BB5 : Hd (Below w.heap.size w (y5.alloc (.cells #[.string ⟨#[99, 97, 116, 99, 104, 45, 97, 108, 108]⟩, .string ⟨#[99, 97, 116, 99, 104, 45, 97, 108, 108]⟩, .int .i64 10000, .int .i64 1, .slice ua5 1 uc5] 53))) := ⟨(B4.trans (c5.mono B4.size)).trans (AL.mono (Nat.le_trans B4.size c5.size))⟩
        have SZ5 : w.heap.size ≤ (y5.alloc (.cells #[.string ⟨#[99, 97, 116, 99, 104, 45, 97, 108, 108]⟩, .string ⟨#[99, 97, 116, 99, 104, 45, 97, 108, 108]⟩, .int .i64 10000, .int .i64 1, .slice ua5 1 uc5] 53)).heap.size := BB5.out.size
        have HY5 : Hd _ := ⟨And.intro Y5 (And.intro RR5 FR5)⟩
        clear AL PX r5 c5 Y5 RR5 FR5 O4 B4
        go_wp2_with (at_builtin; go_loud (refine wpList_append_own _ rfl _ _ 23 rfl w.heap.size 53 i0 (.agg #[.string ByteArray.empty, .string ByteArray.empty, .int .i64 0, .int .i64 0, .slice none 0 0]) 5 72 Tryz.underlying23 hi hz0 hz1 hz2 rfl (by decide) _ _ _ rfl OW5 ⟨y5.heap.size, 0, none⟩ 1 1 (#[.string ⟨#[99, 97, 116, 99, 104, 45, 97, 108, 108]⟩, .string ⟨#[99, 97, 116, 99, 104, 45, 97, 108, 108]⟩, .int .i64 10000, .int .i64 1, .slice ua5 1 uc5] : Array Value).toList rfl rfl NW5 ON5 (by have := HL.out; unfold maxLen; first | omega | (simp only [List.length_singleton]; omega)) (by have := HL.out; first | omega | (simp only [List.length_singleton]; omega)) SZ5 ?_; intro v5 w5 h5 g5 _))
        have O5 : ScW w.heap.size w5 v5 (S ++ [scY]) (V1 ++ [.slice ua5 1 uc5]) := ScW.put HY5.out.1 HY5.out.2.1 HY5.out.2.2 (by rw [← HN.out]; exact h5) g5
        have B5 : Below w.heap.size w w5 := BB5.out.grown g5 SZ5 (fun x hx => (OW5.lt x hx).1)
        clear h5 g5 OW5 NW5 ON5 BB5 SZ5 HY5
        go_wp2_with fail
        go_ret
        exact ⟨⟨_, _, rfl, by rw [HF2.out]; exact O5⟩, B5⟩
      · have HF2 : Hd (R = S) := ⟨HF.out⟩
        clear HF
        have P2 := QC.out w2 B2
        go_wp2_with fail
        go_at_call 56
        refine P2.mono ?_
        rintro e w4 ⟨rfl, b4⟩
        have O4 := ScW.grown O2 b4
        have B4 : Below w.heap.size w w4 := B2.trans (b4.mono B2.size)
        clear P2 b4 O2 B2
        go_wp2_with fail
        go_ret
        exact ⟨⟨_, _, rfl, by rw [HF2.out]; exact O4⟩, B4⟩
end Go.Proofs.YtijjpblmnlednaaGreatDoor
