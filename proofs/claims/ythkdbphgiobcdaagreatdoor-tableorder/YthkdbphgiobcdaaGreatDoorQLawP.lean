/-
  The walk of 'TableOrder'. Conditions: the configuration lies in memory; the library's table of powers is laid.
-/
import Derived.Test.YthkdbphgiobcdaaGreatDoorQLawH
import Derived.Test.YthkdbphgiobcdaaGreatDoorQTbP
import Derived.Test.YthkdbphgiobcdaaGreatDoorB13
namespace Go.Proofs.YthkdbphgiobcdaaGreatDoor
open Go.RowKit

theorem InvO.cfr {w w2 wr : World} {gd : Nat} {d6 : Array Value} {aL aS : Option Addr} {p r fL fS : Nat} {L : List Lv} {S : List Sc} {V : List Value} {x0 x1 x2 x3 : Int} (h : InvO w w2 wr gd d6 aL aS p p r r (lvF L) (scF S V)) (hp : p = L.length) (hr : r = S.length) (hV : V.length = S.length) (hc : p ≤ fL ∧ r ≤ fS) (hp9 : p ≤ 80) (hr9 : r ≤ 80)
    (hn : (∀ l ∈ L, l.name.size ≤ 9223372036854775807) ∧ ∀ s ∈ S, s.name.size ≤ 9223372036854775807 ∧ s.level.size ≤ 9223372036854775807) (hR : ∀ k (h : k < S.length) (h' : k < V.length), RlR wr V[k] S[k].rules) :
    CfR wr (.agg #[.int .i64 x0, .int .i64 x1, .int .i64 x2, .int .i64 x3, .slice aL p fL, .slice aS r fS]) ⟨x0, x1, x2, x3, L, S⟩ := by
  refine ⟨⟨by show L.length ≤ _; omega, by show S.length ≤ _; omega⟩, hn, aL, fL, aS, fS, V, ?_, ?_, ?_, h.l.lvr hp, hV, h.s.scr hr, hR⟩
  · show _ = Value.agg #[_, _, _, _, .slice aL L.length fL, .slice aS S.length fS]
    rw [← hp, ← hr]
  · show L.length ≤ fL; omega
  · show S.length ≤ fS; omega
theorem rev_rlr {W : World} {S : List Sc} {V : List Value} (hV : V.length = S.length) (h : ∀ k (h : k < S.length) (h' : k < V.length), RlR W V[k] S[k].rules) : ∀ k (h : k < S.reverse.length) (h' : k < V.reverse.length), RlR W V.reverse[k] S.reverse[k].rules := fun k h1 h2 => by
  rw [List.length_reverse] at h1 h2
  rw [List.getElem_reverse, List.getElem_reverse]
  have e : V.length - 1 - k = S.length - 1 - k := by rw [hV]
  have := h (S.length - 1 - k) (by omega) (by omega)
  simpa only [e] using this
theorem Wr.read {w : World} {g t z n i : Nat} {F : Nat → List Value} (h : Wr w g t z n i F) {k j : Nat} (hk : k < i) (hj : j < z) : w.cell? ⟨g, k * z + j, none⟩ = (F k)[j]? := by
  obtain ⟨cur, hb, -, hc⟩ := h
  rw [hb.cell, hc k hk j hj]
/-- The cells of a level at a place of a row. -/
structure El (w : World) (g i : Nat) (l : Lv) : Prop where
  c0 : w.cell? ⟨g, i * 10, none⟩ = some (.string l.name)
  c1 : w.cell? ⟨g, i * 10 + 1, none⟩ = some (.int .i64 l.kind)
  c2 : w.cell? ⟨g, i * 10 + 2, none⟩ = some (.int .i64 l.shares)
  c3 : w.cell? ⟨g, i * 10 + 3, none⟩ = some (.int .i64 l.lend)
  c4 : w.cell? ⟨g, i * 10 + 4, none⟩ = some (.int .i64 l.borrow)
  c5 : w.cell? ⟨g, i * 10 + 5, none⟩ = some (.int .i64 l.queues)
  c6 : w.cell? ⟨g, i * 10 + 6, none⟩ = some (.int .i64 l.hand)
  c7 : w.cell? ⟨g, i * 10 + 7, none⟩ = some (.int .i64 l.length)
  c8 : w.cell? ⟨g, i * 10 + 8, none⟩ = some (.int .i64 l.wait)
  c9 : w.cell? ⟨g, i * 10 + 9, none⟩ = some (.int .i64 l.guess)
theorem Wr.el {w : World} {g t n i k : Nat} {F : Nat → List Value} {l : Lv} (h : Wr w g t 10 n i F) (hk : k < i) (e : F k = lvC l) : El w g k l := by
  have r : ∀ j, j < 10 → w.cell? ⟨g, k * 10 + j, none⟩ = (lvC l)[j]? := fun j hj => by rw [h.read hk hj, e]
  exact ⟨r 0 (by decide), r 1 (by decide), r 2 (by decide), r 3 (by decide), r 4 (by decide), r 5 (by decide), r 6 (by decide), r 7 (by decide), r 8 (by decide), r 9 (by decide)⟩
theorem lvF_sw {L : List Lv} {q : Nat} (h : q + 1 < L.length) : lvF (sw2 L q) q = lvC L[q + 1] ∧ lvF (sw2 L q) (q + 1) = lvC L[q] ∧ ∀ x, x ≠ q → x ≠ q + 1 → lvF (sw2 L q) x = lvF L x := by
  refine ⟨?_, ?_, fun x h1 h2 => ?_⟩
  · unfold lvF; rw [sw2_at L q q h, if_pos rfl, List.getElem?_eq_getElem h]; rfl
  · unfold lvF; rw [sw2_at L q (q + 1) h, if_neg (by omega), if_pos rfl, List.getElem?_eq_getElem (by omega)]; rfl
  · unfold lvF; rw [sw2_at L q x h, if_neg h1, if_neg h2]
theorem InvO.drew1 {w w2 wr : World} {gd : Nat} {d6 : Array Value} {aL aS : Option Addr} {p k r i : Nat} {FL FS : Nat → List Value} (h : InvO w w2 wr gd d6 aL aS p k r i FL FS) : InvO w w2 wr.drew gd d6 aL aS p k r i FL FS :=
  ⟨h.b.trans ⟨rfl, rfl, rfl, Nat.le_refl _, fun _ _ => rfl⟩, h.c.trans ⟨rfl, rfl, rfl, Nat.le_refl _, fun _ _ => rfl⟩, h.nd, h.l, h.s⟩
theorem Wr.drawn {w : World} {g t z n i : Nat} {F : Nat → List Value} (h : Wr w g t z n i F) : Wr w.drew g t z n i F := h

set_option maxRecDepth 20000 in
set_option maxHeartbeats 32000000 in
theorem torder_ok (v : Value) (C : Cf) (turn swap : Int) (w : World) (h : CfR w v C) (hT : Tab w) : Calls Tryz.prog 4 #[v, .int .i64 turn, .int .i64 swap] w fun e w' => e = .returned (.bool true) ∧ Below w.heap.size w w' := by
  have HC0 : Hd (CfR w v C) := ⟨h⟩
  have HT : Hd (Tab w) := ⟨hT⟩
  obtain ⟨cA, cC, sA, sC, Vc, rfl, capL, capS, hL, hV, hS, hR⟩ := h.ex
  have HNM : Hd ((∀ l ∈ C.levels, l.name.size ≤ 9223372036854775807) ∧ ∀ s ∈ C.schemas, s.name.size ≤ 9223372036854775807 ∧ s.level.size ≤ 9223372036854775807) := ⟨h.nm⟩
  have HLC : Hd (∀ W, Below w.heap.size w W → LvR W cA C.levels) := ⟨fun W b => hL.carry b⟩
  have HSC : Hd (Vc.length = C.schemas.length ∧ (∀ W, Below w.heap.size w W → ScR W sA C.schemas Vc) ∧ ∀ W, Below w.heap.size w W → ∀ k (h : k < C.schemas.length) (h' : k < Vc.length), RlR W Vc[k] C.schemas[k].rules) := ⟨hV, fun W b => hS.carry b, fun W b k h h' => (hR k h h').carry b⟩
  clear h hT hL hV hS hR capL capS
  obtain ⟨x0, x1, x2, x3, L, S⟩ := C
  simp only at HC0 HNM HLC HSC
  obtain ⟨p, hp⟩ : ∃ p, p = L.length := ⟨_, rfl⟩
  obtain ⟨r, hr⟩ : ∃ r, r = S.length := ⟨_, rfl⟩
  have HP : Hd (p = L.length ∧ r = S.length) := ⟨hp, hr⟩
  have HC : Hd (∀ W, Below w.heap.size w W → CfR W (.agg #[.int .i64 x0, .int .i64 x1, .int .i64 x2, .int .i64 x3, .slice cA p cC, .slice sA r sC]) ⟨x0, x1, x2, x3, L, S⟩) := ⟨fun W b => by
    have := HC0.out.carry b
    rw [← hp, ← hr] at this
    exact this⟩
  show Calls Tryz.prog 4 #[.agg #[.int .i64 x0, .int .i64 x1, .int .i64 x2, .int .i64 x3, .slice cA L.length cC, .slice sA S.length sC], .int .i64 turn, .int .i64 swap] w _
  rw [← hp, ← hr]
  clear HC0 hp hr
  have B0 : Hd (Below w.heap.size w (w.alloc (.cells #[.int .i64 x0, .int .i64 x1, .int .i64 x2, .int .i64 x3, .slice cA p cC, .slice sA r sC] 25))) := ⟨alloc_below w _⟩
  have F0 : Hd (Blk (w.alloc (.cells #[.int .i64 x0, .int .i64 x1, .int .i64 x2, .int .i64 x3, .slice cA p cC, .slice sA r sC] 25)) w.heap.size 25 #[.int .i64 x0, .int .i64 x1, .int .i64 x2, .int .i64 x3, .slice cA p cC, .slice sA r sC]) := ⟨Blk.new w 25 _⟩
  go_enter Tryz.func4, Tryz.ntmps4
  go_wp2_with fail
  generalize w.alloc _ = w0 at *
  go_at_call 7
  refine (awake_ok w0 (HT.out.stays B0.out)).mono ?_
  rintro e w1 ⟨rfl, b1⟩
  have B1 : Hd (Below w.heap.size w w1) := ⟨B0.out.trans (b1.mono B0.out.size)⟩
  have F1 : Hd (Blk w1 w.heap.size 25 _) := ⟨F0.out.kept (Kept.of_below b1 (fun _ => False)) id⟩
  clear b1 B0 F0
  obtain ⟨⟨l0, l1, l2, l3, l4, l5⟩, -⟩ := F1.out.sixP
  go_wp2_with fail
  go_at_call 8
  refine (small_any _ _ w1 (HC.out w1 B1.out)).mono ?_
  rintro e w2 ⟨⟨b, rfl, hb⟩, b2⟩
  have B2 : Hd (Below w.heap.size w w2) := ⟨B1.out.trans (b2.mono B1.out.size)⟩
  have F2 : Hd (Blk w2 w.heap.size 25 _) := ⟨F1.out.kept (Kept.of_below b2 (fun _ => False)) id⟩
  clear l0 l1 l2 l3 l4 l5 b2 B1 F1
  obtain ⟨⟨l0, l1, l2, l3, l4, l5⟩, -⟩ := F2.out.sixP
  cases b with
  | false =>
    clear hb
    go_wp2_with fail
    go_ret
    exact ⟨rfl, B2.out⟩
  | true =>
    have HB : Hd (Bnd 80 ⟨x0, x1, x2, x3, L, S⟩) := ⟨hb rfl⟩
    have p9 : p ≤ 80 := by rw [HP.out.1]; exact HB.out.lv
    have r9 : r ≤ 80 := by rw [HP.out.2]; exact HB.out.sc
    clear hb
    go_wp2_with fail
    go_at_call 9
    refine (copy_ok _ _ w2 (HC.out w2 B2.out) (HB.out.mono (by omega))).mono ?_
    rintro e w3 ⟨⟨v3, rfl, hcw⟩, b3⟩
    obtain ⟨vL, vS, V3, rfl, hLW, hSW⟩ := hcw.ex
    obtain ⟨aL, fL, rfl, hfL, hrL⟩ := owns_rowO hLW
    obtain ⟨aS, fS, rfl, hfS, hrS⟩ := owns_rowO hSW.own
    simp only at hfL hrL hfS hrS ⊢
    rw [← HP.out.1] at hfL hrL
    rw [← HP.out.2] at hfS hrS
    rw [← HP.out.1, ← HP.out.2]
    have HCap : Hd (p ≤ fL ∧ r ≤ fS) := ⟨hfL, hfS⟩
    have A4 : Below w3.heap.size w3 (w3.alloc (.cells #[.int .i64 x0, .int .i64 x1, .int .i64 x2, .int .i64 x3, .slice aL p fL, .slice aS r fS] 25)) := alloc_below w3 _
    have I4 : Hd (w3.heap.size = w3.heap.size ∧ ∀ FL FS, InvO w w2 (w3.alloc (.cells #[.int .i64 x0, .int .i64 x1, .int .i64 x2, .int .i64 x3, .slice aL p fL, .slice aS r fS] 25)) w3.heap.size #[.int .i64 x0, .int .i64 x1, .int .i64 x2, .int .i64 x3, .slice aL p fL, .slice aS r fS] aL aS p 0 r 0 FL FS) :=
      ⟨rfl, fun FL FS => ⟨(B2.out.trans (b3.mono B2.out.size)).trans (A4.mono (Nat.le_trans B2.out.size b3.size)), b3.trans (A4.mono b3.size), Blk.new w3 25 _, (hrL FL).kept (Kept.of_below A4 (fun _ => False)) (Off.none _ _), (hrS FS).kept (Kept.of_below A4 (fun _ => False)) (Off.none _ _)⟩⟩
    have F4 : Hd (Blk (w3.alloc (.cells #[.int .i64 x0, .int .i64 x1, .int .i64 x2, .int .i64 x3, .slice aL p fL, .slice aS r fS] 25)) w.heap.size 25 #[.int .i64 x0, .int .i64 x1, .int .i64 x2, .int .i64 x3, .slice cA p cC, .slice sA r sC]) := ⟨(F2.out.kept (Kept.of_below b3 (fun _ => False)) id).kept (Kept.of_below A4 (fun _ => False)) id⟩
    have HW2 : Hd (w.heap.size ≤ w2.heap.size) := ⟨B2.out.size⟩
    have c4 := F4.out.cellv (v := .slice cA p cC) 4 rfl
    have c5 := F4.out.cellv (v := .slice sA r sC) 5 rfl
    clear l0 l1 l2 l3 l4 l5 hcw hLW hSW hrL hrS hfL hfS b3 A4 B2
    go_upto_region 6 with fail
    generalize w3.alloc _ = w4 at *
    generalize w3.heap.size = gd at *
    go_quiet (fail)
    have J4 : Hd (∀ n FL FS, InvO w w2 (w4.drewN n) gd #[.int .i64 x0, .int .i64 x1, .int .i64 x2, .int .i64 x3, .slice aL p fL, .slice aS r fS] aL aS p 0 r 0 FL FS) := ⟨fun n FL FS => (I4.out.2 FL FS).drew n⟩
    clear c4 c5 I4 F4
    obtain ⟨T, hT, hT2⟩ : ∃ T : Nat, IntKind.u64.wrap turn = (T : Int) ∧ T < 18446744073709551616 := ⟨(IntKind.u64.wrap turn).toNat, by rw [IntKind.wrap_u64]; omega, by rw [IntKind.wrap_u64]; omega⟩
    obtain ⟨t, ht⟩ : ∃ t, t = T % p := ⟨_, rfl⟩
    have HTt : Hd (t = T % p) := ⟨ht⟩
    clear ht
    go_wp2_with fail
    go_loopw [10] (fun s wr => ∃ k : Nat, k ≤ p ∧ s = .int .i64 k ∧ Hd (∀ FS, InvO w w2 wr gd #[.int .i64 x0, .int .i64 x1, .int .i64 x2, .int .i64 x3, .slice aL p fL, .slice aS r fS] aL aS p k r 0 (lvF (rotL L t)) FS)) (fun s _ => p - (intOf s).toNat)
    case atStart => exact ⟨0, Nat.zero_le _, rfl, ⟨fun FS => J4.out _ _ FS⟩⟩
    case round =>
      obtain ⟨k, hk, rfl, hI⟩ := hrel
      clear J4
      by_cases hlt : k < p
      · obtain ⟨gL, rfl, hB, hW⟩ := (hI.out (fun _ => [])).l (by omega)
        have HI0 := hI.out (fun _ => [])
        obtain ⟨bB, oB, rfl, hbB, hcB⟩ := HLC.out wr HI0.b (by rw [← HP.out.1]; omega)
        have tp : t < p := by rw [HTt.out]; exact Nat.mod_lt _ (by omega)
        obtain ⟨q, hq⟩ : ∃ q, q = rotI p t k := ⟨_, rfl⟩
        have qp : q < p := by rw [hq]; exact rotI_lt hlt
        have hqL : q < L.length := by rw [← HP.out.1]; exact qp
        have v2 : IntKind.u64.wrap (p : Int) = (p : Int) := by rw [IntKind.wrap_u64]; omega
        have v3 : (T : Int).tmod (p : Int) = (t : Int) := by rw [HTt.out]; exact (Int.ofNat_tmod _ _).symm
        have v4 : IntKind.i64.wrap (t : Int) = (t : Int) := by rw [IntKind.wrap_i64]; omega
        have v0 : ((p : Int) == 0) = false := by simp; omega
        have rn : ¬ p = 0 := by omega
        have v7 : IntKind.u64.wrap (t : Int) = (t : Int) := by rw [IntKind.wrap_u64]; omega
        have v5 : IntKind.i64.wrap ((k : Int) + (t : Int)) = (k : Int) + (t : Int) := by rw [IntKind.wrap_i64]; omega
        have v6 : ((k : Int) + (t : Int)).tmod (p : Int) = (q : Int) := by
          rw [hq]; unfold rotI
          rw [show (k : Int) + (t : Int) = ((k + t : Nat) : Int) by omega]
          exact (Int.ofNat_tmod _ _).symm
        have v8 : IntKind.i64.wrap (q : Int) = (q : Int) := by rw [IntKind.wrap_i64]; omega
        have cs := hcB q hqL
        have z0 : wr.cell? ⟨bB, oB + q * 10, none⟩ = some (.string L[q].name) := cs 0 (by decide)
        have z1 : wr.cell? ⟨bB, oB + q * 10 + 1, none⟩ = some (.int .i64 L[q].kind) := cs 1 (by decide)
        have z2 : wr.cell? ⟨bB, oB + q * 10 + 2, none⟩ = some (.int .i64 L[q].shares) := cs 2 (by decide)
        have z3 : wr.cell? ⟨bB, oB + q * 10 + 3, none⟩ = some (.int .i64 L[q].lend) := cs 3 (by decide)
        have z4 : wr.cell? ⟨bB, oB + q * 10 + 4, none⟩ = some (.int .i64 L[q].borrow) := cs 4 (by decide)
        have z5 : wr.cell? ⟨bB, oB + q * 10 + 5, none⟩ = some (.int .i64 L[q].queues) := cs 5 (by decide)
        have z6 : wr.cell? ⟨bB, oB + q * 10 + 6, none⟩ = some (.int .i64 L[q].hand) := cs 6 (by decide)
        have z7 : wr.cell? ⟨bB, oB + q * 10 + 7, none⟩ = some (.int .i64 L[q].length) := cs 7 (by decide)
        have z8 : wr.cell? ⟨bB, oB + q * 10 + 8, none⟩ = some (.int .i64 L[q].wait) := cs 8 (by decide)
        have z9 : wr.cell? ⟨bB, oB + q * 10 + 9, none⟩ = some (.int .i64 L[q].guess) := cs 9 (by decide)
        have HRV : Hd (lvF (rotL L t) k = lvC L[q]) := ⟨by
          have htL : t < L.length := by rw [← HP.out.1]; exact tp
          have e1 := rotL_at L t k htL (by rw [← HP.out.1]; exact hlt)
          rw [lvF_at (by rw [rotL_len _ _ htL, ← HP.out.1]; exact hlt), e1]
          congr 2
          rw [hq, ← HP.out.1]⟩
        have F5 : Blk wr w.heap.size 25 _ := F2.out.kept (Kept.of_below HI0.c (fun _ => False)) id
        have c4 := F5.cellv (v := .slice (some ⟨bB, oB, none⟩) p cC) 4 rfl
        have d4 := HI0.nd.cellv (v := .slice (some ⟨gL, 0, none⟩) p fL) 4 rfl
        obtain ⟨⟨ro0, m0⟩, n0⟩ := hW.room (q := k * 10) (by omega)
        obtain ⟨⟨ro1, m1⟩, n1⟩ := hW.room (q := k * 10 + 1) (by omega)
        obtain ⟨⟨ro2, m2⟩, n2⟩ := hW.room (q := k * 10 + 2) (by omega)
        obtain ⟨⟨ro3, m3⟩, n3⟩ := hW.room (q := k * 10 + 3) (by omega)
        obtain ⟨⟨ro4, m4⟩, n4⟩ := hW.room (q := k * 10 + 4) (by omega)
        obtain ⟨⟨ro5, m5⟩, n5⟩ := hW.room (q := k * 10 + 5) (by omega)
        obtain ⟨⟨ro6, m6⟩, n6⟩ := hW.room (q := k * 10 + 6) (by omega)
        obtain ⟨⟨ro7, m7⟩, n7⟩ := hW.room (q := k * 10 + 7) (by omega)
        obtain ⟨⟨ro8, m8⟩, n8⟩ := hW.room (q := k * 10 + 8) (by omega)
        obtain ⟨⟨ro9, m9⟩, n9⟩ := hW.room (q := k * 10 + 9) (by omega)
        have HK : Hd (k < p) := ⟨hlt⟩
        have HNX : Hd (∀ W, Kept (fun b => b = gL) wr W → Wr W gL 43 10 p (k + 1) (lvF (rotL L t)) → ∀ FS, InvO w w2 W gd #[.int .i64 x0, .int .i64 x1, .int .i64 x2, .int .i64 x3, .slice (some ⟨gL, 0, none⟩) p fL, .slice aS r fS] (some ⟨gL, 0, none⟩) aS p (k + 1) r 0 (lvF (rotL L t)) FS) := ⟨fun W kp wl FS => (hI.out FS).nextL HW2.out rfl hB hW kp wl⟩
        have P10 := hW.put10 hlt (.string L[q].name) (.int .i64 L[q].kind) (.int .i64 L[q].shares) (.int .i64 L[q].lend) (.int .i64 L[q].borrow) (.int .i64 L[q].queues) (.int .i64 L[q].hand) (.int .i64 L[q].length) (.int .i64 L[q].wait) (.int .i64 L[q].guess) (by rw [HRV.out]; rfl)
        clear HI0 hB hW cs HRV hI hcB hbB F5
        generalize L[q] = l at *
        clear hq hqL
        have i1 : (k : Int) < (p : Int) := by omega
        have i2 : (q : Int) < (p : Int) := by omega
        go_upto_region 10 with fail
        refine region_tail 18 (by kernel_rfl) ?_
        simp only [List.take_succ_cons, List.take_zero, List.drop_succ_cons, List.drop_zero]
        repeat still_step
        refine wpStill_nil ?_
        go_wp2_with fail
        have GO : Hd (∀ FS, InvO w w2 ((((((((((wr.setCell ⟨gL, k * 10, none⟩ (.string l.name)).setCell ⟨gL, k * 10 + 1, none⟩ (.int .i64 l.kind)).setCell ⟨gL, k * 10 + 2, none⟩ (.int .i64 l.shares)).setCell ⟨gL, k * 10 + 3, none⟩ (.int .i64 l.lend)).setCell ⟨gL, k * 10 + 4, none⟩ (.int .i64 l.borrow)).setCell ⟨gL, k * 10 + 5, none⟩ (.int .i64 l.queues)).setCell ⟨gL, k * 10 + 6, none⟩ (.int .i64 l.hand)).setCell ⟨gL, k * 10 + 7, none⟩ (.int .i64 l.length)).setCell ⟨gL, k * 10 + 8, none⟩ (.int .i64 l.wait)).setCell ⟨gL, k * 10 + 9, none⟩ (.int .i64 l.guess)).drew gd #[.int .i64 x0, .int .i64 x1, .int .i64 x2, .int .i64 x3, .slice (some ⟨gL, 0, none⟩) p fL, .slice aS r fS] (some ⟨gL, 0, none⟩) aS p (k + 1) r 0 (lvF (rotL L t)) FS) := ⟨fun FS => HNX.out _ P10.2.drew P10.1.drawn FS⟩
        first
          | exact ⟨k + 1, HK.out, by go_num, GO⟩
          | ((repeat apply Exists.intro); exact ⟨⟨k + 1, HK.out, by go_num, GO⟩, rfl⟩)
          | (refine ⟨⟨k + 1, HK.out, by go_num, GO⟩, ?_⟩; have := HK.out; simp [intOf]; omega)
      · obtain rfl : k = p := by omega
        have HI2 := hI.out (scF S.reverse Vc.reverse)
        clear hI
        go_wp2_with fail
        go_loopw [11] (fun s wr => ∃ i : Nat, i ≤ r ∧ s = .int .i64 i ∧ Hd (InvO w w2 wr gd #[.int .i64 x0, .int .i64 x1, .int .i64 x2, .int .i64 x3, .slice aL k fL, .slice aS r fS] aL aS k k r i (lvF (rotL L t)) (scF S.reverse Vc.reverse))) (fun s _ => r - (intOf s).toNat)
        case atStart => exact ⟨0, Nat.zero_le _, rfl, ⟨HI2⟩⟩
        case round =>
          obtain ⟨i, hi, rfl, hI⟩ := hrel
          clear HI2 hlt hk
          by_cases hlt2 : i < r
          · have HI0 := hI.out
            obtain ⟨gS, rfl, hB, hW⟩ := HI0.s (by omega)
            obtain ⟨sB, oS, rfl, hsB, hcS⟩ := HSC.out.2.1 wr HI0.b (by rw [← HP.out.2]; omega)
            obtain ⟨q, hq⟩ : ∃ q : Nat, r = i + 1 + q := ⟨r - i - 1, by omega⟩
            have hqS : q < S.length := by rw [← HP.out.2]; omega
            have hqV : q < Vc.length := by rw [HSC.out.1]; exact hqS
            have HQ : Hd (r = i + 1 + q) := ⟨hq⟩
            have u1 : IntKind.i64.wrap ((r : Int) - 1) = (r : Int) - 1 := by rw [IntKind.wrap_i64]; omega
            have u2 : IntKind.i64.wrap ((r : Int) - 1 - (i : Int)) = (q : Int) := by rw [IntKind.wrap_i64]; omega
            have qr : q < r := by omega
            clear hq
            have cs := hcS q hqS hqV
            have z0 : wr.cell? ⟨sB, oS + q * 5, none⟩ = some (.string S[q].name) := cs 0 (by decide)
            have z1 : wr.cell? ⟨sB, oS + q * 5 + 1, none⟩ = some (.string S[q].level) := cs 1 (by decide)
            have z2 : wr.cell? ⟨sB, oS + q * 5 + 2, none⟩ = some (.int .i64 S[q].rank) := cs 2 (by decide)
            have z3 : wr.cell? ⟨sB, oS + q * 5 + 3, none⟩ = some (.int .i64 S[q].way) := cs 3 (by decide)
            have z4 : wr.cell? ⟨sB, oS + q * 5 + 4, none⟩ = some Vc[q] := cs 4 (by decide)
            have HRV : Hd (scF S.reverse Vc.reverse i = scC S[q] Vc[q]) := ⟨by
              rw [scF_at (by rw [List.length_reverse, ← HP.out.2]; exact hlt2) (by rw [List.length_reverse, HSC.out.1, ← HP.out.2]; exact hlt2), List.getElem_reverse, List.getElem_reverse]
              have := HQ.out
              congr 2
              · rw [← HP.out.2]; omega
              · rw [HSC.out.1, ← HP.out.2]; omega⟩
            obtain ⟨ra, rc, er, -⟩ := HSC.out.2.2 wr HI0.b q hqS hqV
            have F5 : Blk wr w.heap.size 25 _ := F2.out.kept (Kept.of_below HI0.c (fun _ => False)) id
            have c5 := F5.cellv (v := .slice (some ⟨sB, oS, none⟩) r sC) 5 rfl
            have d5 := HI0.nd.cellv (v := .slice (some ⟨gS, 0, none⟩) r fS) 5 rfl
            obtain ⟨⟨ro0, m0⟩, n0⟩ := hW.room (q := i * 5) (by omega)
            obtain ⟨⟨ro1, m1⟩, n1⟩ := hW.room (q := i * 5 + 1) (by omega)
            obtain ⟨⟨ro2, m2⟩, n2⟩ := hW.room (q := i * 5 + 2) (by omega)
            obtain ⟨⟨ro3, m3⟩, n3⟩ := hW.room (q := i * 5 + 3) (by omega)
            obtain ⟨⟨ro4, m4⟩, n4⟩ := hW.room (q := i * 5 + 4) (by omega)
            have HK : Hd (i < r) := ⟨hlt2⟩
            have HNX : Hd (∀ W, Kept (fun b => b = gS) wr W → Wr W gS 47 5 r (i + 1) (scF S.reverse Vc.reverse) → InvO w w2 W gd #[.int .i64 x0, .int .i64 x1, .int .i64 x2, .int .i64 x3, .slice aL k fL, .slice (some ⟨gS, 0, none⟩) r fS] aL (some ⟨gS, 0, none⟩) k k r (i + 1) (lvF (rotL L t)) (scF S.reverse Vc.reverse)) := ⟨fun W kp wl => hI.out.nextS HW2.out rfl hB hW kp wl⟩
            generalize hvq : Vc[q] = vq at *
            subst er
            have P5 := hW.put5 hlt2 (.string S[q].name) (.string S[q].level) (.int .i64 S[q].rank) (.int .i64 S[q].way) (.slice ra S[q].rules.length rc) (by rw [HRV.out]; rfl)
            clear HI0 hB hW cs HRV hI hcS hsB F5 hvq
            generalize S[q] = l at *
            clear hqS hqV
            generalize l.rules.length = nr at *
            have i1 : (i : Int) < (r : Int) := by omega
            have i2 : (q : Int) < (r : Int) := by omega
            go_upto_region 14 with fail
            refine region_tail 12 (by kernel_rfl) ?_
            simp only [List.take_succ_cons, List.take_zero, List.drop_succ_cons, List.drop_zero]
            repeat still_step
            refine wpStill_nil ?_
            go_wp2_with fail
            have GO : Hd (InvO w w2 (((((wr.setCell ⟨gS, i * 5, none⟩ (.string l.name)).setCell ⟨gS, i * 5 + 1, none⟩ (.string l.level)).setCell ⟨gS, i * 5 + 2, none⟩ (.int .i64 l.rank)).setCell ⟨gS, i * 5 + 3, none⟩ (.int .i64 l.way)).setCell ⟨gS, i * 5 + 4, none⟩ (.slice ra nr rc)).drew gd #[.int .i64 x0, .int .i64 x1, .int .i64 x2, .int .i64 x3, .slice aL k fL, .slice (some ⟨gS, 0, none⟩) r fS] aL (some ⟨gS, 0, none⟩) k k r (i + 1) (lvF (rotL L t)) (scF S.reverse Vc.reverse)) := ⟨HNX.out _ P5.2.drew P5.1.drawn⟩
            first
              | exact ⟨i + 1, HK.out, by go_num, GO⟩
              | ((repeat apply Exists.intro); exact ⟨⟨i + 1, HK.out, by go_num, GO⟩, rfl⟩)
              | (refine ⟨⟨i + 1, HK.out, by go_num, GO⟩, ?_⟩; have := HK.out; simp [intOf]; omega)
          · obtain rfl : i = r := by omega
            clear hlt2 hi
            by_cases hone : 1 < k
            · obtain ⟨gL, rfl, hB, hW⟩ := hI.out.l (by omega)
              obtain ⟨T2, hU, hU2⟩ : ∃ T2 : Nat, IntKind.u64.wrap swap = (T2 : Int) ∧ T2 < 18446744073709551616 := ⟨(IntKind.u64.wrap swap).toNat, by rw [IntKind.wrap_u64]; omega, by rw [IntKind.wrap_u64]; omega⟩
              obtain ⟨k1, hk1⟩ : ∃ k1, k = k1 + 1 := ⟨k - 1, by omega⟩
              obtain ⟨q, hq⟩ : ∃ q, q = T2 % k1 := ⟨_, rfl⟩
              have q1 : q + 1 < k := by have : T2 % k1 < k1 := Nat.mod_lt _ (by omega); omega
              have u1 : IntKind.i64.wrap ((k : Int) - 1) = (k1 : Int) := by rw [IntKind.wrap_i64]; omega
              have u2 : IntKind.u64.wrap (k1 : Int) = (k1 : Int) := by rw [IntKind.wrap_u64]; omega
              have u3 : (T2 : Int).tmod (k1 : Int) = (q : Int) := by rw [hq]; exact (Int.ofNat_tmod _ _).symm
              have u4 : IntKind.i64.wrap (q : Int) = (q : Int) := by rw [IntKind.wrap_i64]; omega
              have u6 : IntKind.u64.wrap (q : Int) = (q : Int) := by rw [IntKind.wrap_u64]; omega
              have u0 : ((k1 : Int) == 0) = false := by simp; omega
              have un : ¬ k1 = 0 := by omega
              have u5 : IntKind.i64.wrap ((q : Int) + 1) = (q : Int) + 1 := by rw [IntKind.wrap_i64]; omega
              have q3 : (((q + 1 : Nat) : Int)) = (q : Int) + 1 := by omega
              have lM : (rotL L t).length = k := (rot_perm L t).length_eq.trans HP.out.1.symm
              have hqM : q + 1 < (rotL L t).length := by rw [lM]; exact q1
              obtain ⟨s1, s2, s3⟩ := lvF_sw hqM
              have E0 := hW.el (k := q) (l := (rotL L t)[q]) (by omega) (lvF_at (by omega))
              have E1 := hW.el (k := q + 1) (l := (rotL L t)[q + 1]) (by omega) (lvF_at hqM)
              have HS1 : Hd (lvF (sw2 (rotL L t) q) q = lvC (rotL L t)[q + 1] ∧ lvF (sw2 (rotL L t) q) (q + 1) = lvC (rotL L t)[q] ∧ ∀ x, x ≠ q → x ≠ q + 1 → lvF (sw2 (rotL L t) q) x = lvF (rotL L t) x) := ⟨s1, s2, s3⟩
              have HPM : Hd ((sw2 (rotL L t) q).Perm L ∧ S.reverse.Perm S) := ⟨(sw2_perm _ q).trans (rot_perm L t), List.reverse_perm S⟩
              have HBD : Hd (Bnd 80 ⟨x0, x1, x2, x3, sw2 (rotL L t) q, S.reverse⟩) := ⟨HB.out.turn HPM.out.1 HPM.out.2⟩
              generalize hla : (rotL L t)[q] = la at *
              generalize hlb : (rotL L t)[q + 1] = lb at *
              have HW : Hd (Wr wr gL 43 10 k k (lvF (rotL L t))) := ⟨hW⟩
              have HBg : Hd (w2.heap.size ≤ gL) := ⟨hB⟩
              have i1 : (1 : Int) < (k : Int) := by omega
              have i2 : (q : Int) + 1 < (k : Int) := by omega
              have i3 : (q : Int) < (k : Int) := by omega
              have ND0 : Blk wr.drew gd 25 #[.int .i64 x0, .int .i64 x1, .int .i64 x2, .int .i64 x3, .slice (some ⟨gL, 0, none⟩) k fL, .slice aS i fS] := hI.out.nd.drawn
              have U0 : El wr.drew gL q la ∧ El wr.drew gL (q + 1) lb := ⟨⟨E0.1, E0.2, E0.3, E0.4, E0.5, E0.6, E0.7, E0.8, E0.9, E0.10⟩, ⟨E1.1, E1.2, E1.3, E1.4, E1.5, E1.6, E1.7, E1.8, E1.9, E1.10⟩⟩
              have HQ1 : Hd (q + 1 < k ∧ q + 1 < (rotL L t).length) := ⟨q1, hqM⟩
              clear s1 s2 s3 E0 E1 hW hB hla hlb hq hk1 hone lM hqM
              go_upto_region 17 with fail
              have W0 := HW.out.drawn
              have T0 := ND0
              clear ND0
              refine AnyG.start (T := fun W => Blk W gd 25 #[.int .i64 x0, .int .i64 x1, .int .i64 x2, .int .i64 x3, .slice (some ⟨gL, 0, none⟩) k fL, .slice aS i fS]) (U := fun W => El W gL q la ∧ El W gL (q + 1) lb) (j0 := 19) (by kernel_rfl) ?_
              have HI1 : Hd _ := ⟨hI.out.drew1⟩
              clear hI HW
              generalize wr.drew = w5 at *
              refine .tk 0 79 rfl rfl (by kernel_rfl) (fun _ _ _ h => h) ⟨T0, fun _ => U0⟩ (by rfl) (fun w hSw => by go_simp; rfl) ?_; simp only [tkA, tkB, tkC]
              refine .tk 1 80 rfl rfl (by kernel_rfl) (fun _ _ _ h => h) ⟨T0, fun _ => U0⟩ (by rfl) (fun w hSw => by have s4 := hSw.cellv (v := .slice (some ⟨gL, 0, none⟩) k fL) 4 rfl; go_simp; rfl) ?_; simp only [tkA, tkB, tkC]
              refine .tk 2 81 rfl rfl (by kernel_rfl) (fun _ _ _ h => h) ⟨T0, fun _ => U0⟩ (by rfl) (fun w hSw => by go_simp; rfl) ?_; simp only [tkA, tkB, tkC]
              refine .tk 3 82 rfl rfl (by kernel_rfl) (fun _ _ _ h => h) ⟨T0, fun _ => U0⟩ (by rfl) (fun w hSw => by go_simp; rfl) ?_; simp only [tkA, tkB, tkC]
              refine .tk 4 83 rfl rfl (by kernel_rfl) (fun _ _ _ h => h) ⟨T0, fun _ => U0⟩ (by rfl) (fun w hSw => by have s4 := hSw.cellv (v := .slice (some ⟨gL, 0, none⟩) k fL) 4 rfl; go_simp; rfl) ?_; simp only [tkA, tkB, tkC]
              refine .tk 5 84 rfl rfl (by kernel_rfl) (fun _ _ _ h => h) ⟨T0, fun _ => U0⟩ (by rfl) (fun w hSw => by go_simp; rfl) ?_; simp only [tkA, tkB, tkC]
              refine .tk 6 85 rfl rfl (by kernel_rfl) (fun _ _ _ h => h) ⟨T0, fun _ => U0⟩ (by rfl) (fun w hSw => by go_simp; rfl) ?_; simp only [tkA, tkB, tkC]
              refine .tk 7 86 rfl rfl (by kernel_rfl) (fun _ _ _ h => h) ⟨T0, fun _ => U0⟩ (by rfl) (fun w hSw => by go_simp; rfl) ?_; simp only [tkA, tkB, tkC]
              refine .tk 8 87 rfl rfl (by kernel_rfl) (fun _ _ _ h => h) ⟨T0, fun _ => U0⟩ (by rfl) (fun w hSw => by have s4 := hSw.cellv (v := .slice (some ⟨gL, 0, none⟩) k fL) 4 rfl; go_simp; rfl) ?_; simp only [tkA, tkB, tkC]
              refine .tk 9 88 rfl rfl (by kernel_rfl) (fun _ _ _ h => h) ⟨T0, fun _ => U0⟩ (by rfl) (fun w hSw => by go_simp; rfl) ?_; simp only [tkA, tkB, tkC]
              refine .tk 10 89 rfl rfl (by kernel_rfl) (fun _ _ _ h => h) ⟨T0, fun _ => U0⟩ (by rfl) (fun w hSw => by go_simp; rfl) ?_; simp only [tkA, tkB, tkC]
              refine .tk 11 90 rfl rfl (by kernel_rfl) (fun _ _ _ h => h) ⟨T0, fun _ => U0⟩ (by rfl) (fun w hSw => by go_simp; rfl) ?_; simp only [tkA, tkB, tkC]
              refine .tk 13 92 rfl rfl (by kernel_rfl) (fun _ _ _ h => h) ⟨T0, fun _ => U0⟩ (by rfl) (fun w hSw => by go_simp; rfl) ?_; simp only [tkA, tkB, tkC]
              refine .tk 14 93 rfl rfl (by kernel_rfl) (fun _ _ _ h => h) ⟨T0, fun _ => U0⟩ (by rfl) (fun w hSw => by have s4 := hSw.cellv (v := .slice (some ⟨gL, 0, none⟩) k fL) 4 rfl; go_simp; rfl) ?_; simp only [tkA, tkB, tkC]
              refine .tk 15 94 rfl rfl (by kernel_rfl) (fun _ _ _ h => h) ⟨T0, fun _ => U0⟩ (by rfl) (fun w hSw => by go_simp; rfl) ?_; simp only [tkA, tkB, tkC]
              refine .tk 16 95 rfl rfl (by kernel_rfl) (fun _ _ _ h => h) ⟨T0, fun _ => U0⟩ (by rfl) (fun w hSw => by go_simp; rfl) ?_; simp only [tkA, tkB, tkC]
              refine .ek 12 91 rfl rfl (by kernel_rfl) (fun _ _ _ h => h) ⟨T0, fun _ => U0⟩ (by rfl) (fun w hSw => by obtain ⟨-, -, ⟨c0, c1, c2, c3, c4, c5, c6, c7, c8, c9⟩⟩ := hSw; go_simp; rfl) ?_; simp only [tkA, tkB, tkC]
              refine .ek 17 96 rfl rfl (by kernel_rfl) (fun _ _ _ h => h) ⟨T0, fun _ => U0⟩ (by rfl) (fun w hSw => by obtain ⟨-, ⟨c0, c1, c2, c3, c4, c5, c6, c7, c8, c9⟩, -⟩ := hSw; go_simp; rfl) ?_; simp only [tkA, tkB, tkC]
              refine .tk 18 97 rfl rfl (by kernel_rfl) (fun _ _ _ h => h) ⟨T0, fun _ => U0⟩ (by rfl) (fun w hSw => by go_simp; rfl) ?_; simp only [tkA, tkB, tkC]
              refine AnyG.ready (rs := [19]) (by kernel_rfl) (by simp) ?_
              refine AllG.cons rfl (fun K hK => ?_) AllG.nil
              have q0 : q < k := by omega
              obtain ⟨⟨ar0, am0⟩, an0⟩ := W0.room (q := q * 10) (by omega)
              obtain ⟨⟨ar1, am1⟩, an1⟩ := W0.room (q := q * 10 + 1) (by omega)
              obtain ⟨⟨ar2, am2⟩, an2⟩ := W0.room (q := q * 10 + 2) (by omega)
              obtain ⟨⟨ar3, am3⟩, an3⟩ := W0.room (q := q * 10 + 3) (by omega)
              obtain ⟨⟨ar4, am4⟩, an4⟩ := W0.room (q := q * 10 + 4) (by omega)
              obtain ⟨⟨ar5, am5⟩, an5⟩ := W0.room (q := q * 10 + 5) (by omega)
              obtain ⟨⟨ar6, am6⟩, an6⟩ := W0.room (q := q * 10 + 6) (by omega)
              obtain ⟨⟨ar7, am7⟩, an7⟩ := W0.room (q := q * 10 + 7) (by omega)
              obtain ⟨⟨ar8, am8⟩, an8⟩ := W0.room (q := q * 10 + 8) (by omega)
              obtain ⟨⟨ar9, am9⟩, an9⟩ := W0.room (q := q * 10 + 9) (by omega)
              have P1 := W0.at10 (i := q) (F' := fun x => if x = q then lvC lb else lvF (rotL L t) x) q0 (.string lb.name) (.int .i64 lb.kind) (.int .i64 lb.shares) (.int .i64 lb.lend) (.int .i64 lb.borrow) (.int .i64 lb.queues) (.int .i64 lb.hand) (.int .i64 lb.length) (.int .i64 lb.wait) (.int .i64 lb.guess) (if_pos rfl) (fun x hx => if_neg hx)
              go_simp
              have T1 := T0.kept P1.2 (W0.off (by decide) gd _ T0)
              refine hK.out _ _ ⟨T1, fun h => by cases h⟩ ?_
              clear hK K U0 T0 ar0 am0 an0 ar1 am1 an1 ar2 am2 an2 ar3 am3 an3 ar4 am4 an4 ar5 am5 an5 ar6 am6 an6 ar7 am7 an7 ar8 am8 an8 ar9 am9 an9
              generalize ((((((((((w5.setCell ⟨gL, q * 10, none⟩ (.string lb.name)).setCell ⟨gL, q * 10 + 1, none⟩ (.int .i64 lb.kind)).setCell ⟨gL, q * 10 + 2, none⟩ (.int .i64 lb.shares)).setCell ⟨gL, q * 10 + 3, none⟩ (.int .i64 lb.lend)).setCell ⟨gL, q * 10 + 4, none⟩ (.int .i64 lb.borrow)).setCell ⟨gL, q * 10 + 5, none⟩ (.int .i64 lb.queues)).setCell ⟨gL, q * 10 + 6, none⟩ (.int .i64 lb.hand)).setCell ⟨gL, q * 10 + 7, none⟩ (.int .i64 lb.length)).setCell ⟨gL, q * 10 + 8, none⟩ (.int .i64 lb.wait)).setCell ⟨gL, q * 10 + 9, none⟩ (.int .i64 lb.guess)) = w6 at *
              refine .tk 20 98 rfl rfl (by kernel_rfl) (fun _ _ _ h => h) ⟨T1, fun h => by cases h⟩ (by rfl) (fun w hSw => by go_simp; rfl) ?_; simp only [tkA, tkB, tkC]
              refine AnyG.ready (rs := [21]) (by kernel_rfl) (by simp) ?_
              refine AllG.cons rfl (fun K hK => ?_) AllG.nil
              obtain ⟨⟨br0, bm0⟩, bn0⟩ := P1.1.room (q := (q + 1) * 10) (by omega)
              obtain ⟨⟨br1, bm1⟩, bn1⟩ := P1.1.room (q := (q + 1) * 10 + 1) (by omega)
              obtain ⟨⟨br2, bm2⟩, bn2⟩ := P1.1.room (q := (q + 1) * 10 + 2) (by omega)
              obtain ⟨⟨br3, bm3⟩, bn3⟩ := P1.1.room (q := (q + 1) * 10 + 3) (by omega)
              obtain ⟨⟨br4, bm4⟩, bn4⟩ := P1.1.room (q := (q + 1) * 10 + 4) (by omega)
              obtain ⟨⟨br5, bm5⟩, bn5⟩ := P1.1.room (q := (q + 1) * 10 + 5) (by omega)
              obtain ⟨⟨br6, bm6⟩, bn6⟩ := P1.1.room (q := (q + 1) * 10 + 6) (by omega)
              obtain ⟨⟨br7, bm7⟩, bn7⟩ := P1.1.room (q := (q + 1) * 10 + 7) (by omega)
              obtain ⟨⟨br8, bm8⟩, bn8⟩ := P1.1.room (q := (q + 1) * 10 + 8) (by omega)
              obtain ⟨⟨br9, bm9⟩, bn9⟩ := P1.1.room (q := (q + 1) * 10 + 9) (by omega)
              have P2 := P1.1.at10 (i := q + 1) (F' := lvF (sw2 (rotL L t) q)) q1 (.string la.name) (.int .i64 la.kind) (.int .i64 la.shares) (.int .i64 la.lend) (.int .i64 la.borrow) (.int .i64 la.queues) (.int .i64 la.hand) (.int .i64 la.length) (.int .i64 la.wait) (.int .i64 la.guess) (by rw [HS1.out.2.1]; rfl) (fun x hx => by
                by_cases c : x = q
                · subst c; rw [HS1.out.1, if_pos rfl]
                · rw [HS1.out.2.2 x c hx, if_neg c])
              go_simp
              have T2' := T1.kept P2.2 (P1.1.off (by decide) gd _ T1)
              refine hK.out _ _ ⟨T2', fun h => by cases h⟩ ?_
              clear hK K br0 bm0 bn0 br1 bm1 bn1 br2 bm2 bn2 br3 bm3 bn3 br4 bm4 bn4 br5 bm5 bn5 br6 bm6 bn6 br7 bm7 bn7 br8 bm8 bn8 br9 bm9 bn9
              generalize ((((((((((w6.setCell ⟨gL, (q + 1) * 10, none⟩ (.string la.name)).setCell ⟨gL, (q + 1) * 10 + 1, none⟩ (.int .i64 la.kind)).setCell ⟨gL, (q + 1) * 10 + 2, none⟩ (.int .i64 la.shares)).setCell ⟨gL, (q + 1) * 10 + 3, none⟩ (.int .i64 la.lend)).setCell ⟨gL, (q + 1) * 10 + 4, none⟩ (.int .i64 la.borrow)).setCell ⟨gL, (q + 1) * 10 + 5, none⟩ (.int .i64 la.queues)).setCell ⟨gL, (q + 1) * 10 + 6, none⟩ (.int .i64 la.hand)).setCell ⟨gL, (q + 1) * 10 + 7, none⟩ (.int .i64 la.length)).setCell ⟨gL, (q + 1) * 10 + 8, none⟩ (.int .i64 la.wait)).setCell ⟨gL, (q + 1) * 10 + 9, none⟩ (.int .i64 la.guess)) = wz at *
              refine AnyG.done (by kernel_rfl) ?_ _
              have HZ : Hd (InvO w w2 wz gd #[.int .i64 x0, .int .i64 x1, .int .i64 x2, .int .i64 x3, .slice (some ⟨gL, 0, none⟩) k fL, .slice aS i fS] (some ⟨gL, 0, none⟩) aS k k i i (lvF (sw2 (rotL L t) q)) (scF S.reverse Vc.reverse)) := ⟨HI1.out.nextL HW2.out rfl HBg.out W0 (P1.2.trans P2.2) P2.1⟩
              clear P1 P2 T1 T2' W0 HI1 HS1
              have BW : Hd (Below w.heap.size w wz) := ⟨HZ.out.b⟩
              have FC : Hd (Blk wz w.heap.size 25 _) := ⟨F2.out.kept (Kept.of_below HZ.out.c (fun _ => False)) id⟩
              have ND : Hd (Blk wz gd 25 _) := ⟨HZ.out.nd⟩
              have HD : Hd (CfR wz (.agg #[.int .i64 x0, .int .i64 x1, .int .i64 x2, .int .i64 x3, .slice (some ⟨gL, 0, none⟩) k fL, .slice aS i fS]) ⟨x0, x1, x2, x3, sw2 (rotL L t) q, S.reverse⟩) := ⟨HZ.out.cfr (HP.out.1.trans HPM.out.1.length_eq.symm) (HP.out.2.trans (List.length_reverse ..).symm) (by rw [List.length_reverse, List.length_reverse]; exact HSC.out.1) HCap.out p9 r9 ⟨fun l hl => HNM.out.1 l (HPM.out.1.mem_iff.1 hl), fun l hl => HNM.out.2 l (HPM.out.2.mem_iff.1 hl)⟩ (rev_rlr HSC.out.1 (HSC.out.2.2 wz HZ.out.b))⟩
              clear HZ HLC HSC HNM HCap HTt F2 HQ1 u0 u1 u2 u3 u4 u5 u6 un q3 i1 i2 i3 hU hU2
              obtain ⟨⟨l0, l1, l2, l3, l4, l5⟩, -⟩ := FC.out.sixP
              go_wp2_with fail
              go_at_call 10
              refine (make_ok _ _ wz (HC.out _ BW.out) (HB.out.mono (by omega)) (HT.out.stays BW.out)).mono ?_
              rintro e w5 ⟨⟨vL1, vS1, rfl, hR5⟩, b5⟩
              have MT := mk_turn (C := ⟨x0, x1, x2, x3, L, S⟩) HPM.out.1 HPM.out.2
              simp only at MT
              obtain ⟨q1, hq1, hq1'⟩ := errV_two (mkE ⟨x0, x1, x2, x3, L, S⟩)
              obtain ⟨q2, hq2, hq2'⟩ := errV_two (mkE ⟨x0, x1, x2, x3, (sw2 (rotL L t) q), S.reverse⟩)
              have Q12 : (q1 = .nilIface ∧ q2 = .nilIface) ∨ ∃ za zb zc zd, q1 = .iface 74 (.agg #[.int .i64 0, .string za, .iface 38 (.int .i64 zb)]) ∧ q2 = .iface 74 (.agg #[.int .i64 0, .string zc, .iface 38 (.int .i64 zd)]) := by
                rcases hq1' with ⟨e1, z1⟩ | ⟨za, zb, e1, z1⟩ <;> rcases hq2' with ⟨e2, z2⟩ | ⟨zc, zd, e2, z2⟩
                · exact .inl ⟨e1, e2⟩
                · exact absurd (MT.1.2 z1) z2
                · exact absurd (MT.1.1 z2) z1
                · exact .inr ⟨za, zb, zc, zd, e1, e2⟩
              have HM2 : Hd (mkC ⟨x0, x1, x2, x3, (sw2 (rotL L t) q), S.reverse⟩ = mkC ⟨x0, x1, x2, x3, L, S⟩ ∧ mkD ⟨x0, x1, x2, x3, (sw2 (rotL L t) q), S.reverse⟩ = mkD ⟨x0, x1, x2, x3, L, S⟩ ∧ q2 = errV (mkE ⟨x0, x1, x2, x3, (sw2 (rotL L t) q), S.reverse⟩)) := ⟨MT.2.1, MT.2.2, hq2⟩
              rw [← hq1]
              clear hq1 hq2 hq1' hq2' MT
              generalize mkC ⟨x0, x1, x2, x3, L, S⟩ = E at *
              generalize mkD ⟨x0, x1, x2, x3, L, S⟩ = dg at *
              obtain ⟨a1, b1, a2, b2, V5, ev, -, -, -, -, -, -⟩ := hR5.ex
              cases ev
              have b56 := b5.trans ((alloc_below w5 (.cells #[.int .i64 E.total, .int .i64 E.period, .int .i64 E.perSeat, .int .i64 E.most, .slice a1 E.levels.length b1, .slice a2 E.schemas.length b2, .int .u64 dg] 31)).mono b5.size)
              have B6 : Hd (Below w.heap.size w (w5.alloc (.cells #[.int .i64 E.total, .int .i64 E.period, .int .i64 E.perSeat, .int .i64 E.most, .slice a1 E.levels.length b1, .slice a2 E.schemas.length b2, .int .u64 dg] 31))) := ⟨BW.out.trans (b56.mono BW.out.size)⟩
              have NA6 : Hd (Blk (w5.alloc (.cells #[.int .i64 E.total, .int .i64 E.period, .int .i64 E.perSeat, .int .i64 E.most, .slice a1 E.levels.length b1, .slice a2 E.schemas.length b2, .int .u64 dg] 31)) w5.heap.size 31 #[.int .i64 E.total, .int .i64 E.period, .int .i64 E.perSeat, .int .i64 E.most, .slice a1 E.levels.length b1, .slice a2 E.schemas.length b2, .int .u64 dg]) := ⟨Blk.new w5 31 _⟩
              have RA6 : Hd (CfR (w5.alloc (.cells #[.int .i64 E.total, .int .i64 E.period, .int .i64 E.perSeat, .int .i64 E.most, .slice a1 E.levels.length b1, .slice a2 E.schemas.length b2, .int .u64 dg] 31)) (.agg #[.int .i64 E.total, .int .i64 E.period, .int .i64 E.perSeat, .int .i64 E.most, .slice a1 E.levels.length b1, .slice a2 E.schemas.length b2]) E) := ⟨hR5.carry (alloc_below w5 _)⟩
              have HD6 : Hd (CfR (w5.alloc (.cells #[.int .i64 E.total, .int .i64 E.period, .int .i64 E.perSeat, .int .i64 E.most, .slice a1 E.levels.length b1, .slice a2 E.schemas.length b2, .int .u64 dg] 31)) _ _) := ⟨HD.out.carry b56⟩
              have ND6 : Hd (Blk (w5.alloc (.cells #[.int .i64 E.total, .int .i64 E.period, .int .i64 E.perSeat, .int .i64 E.most, .slice a1 E.levels.length b1, .slice a2 E.schemas.length b2, .int .u64 dg] 31)) gd 25 _) := ⟨ND.out.kept (Kept.of_below b56 (fun _ => False)) id⟩
              clear l0 l1 l2 l3 l4 l5 b5 b56 hR5 HD ND FC BW
              obtain ⟨⟨l0, l1, l2, l3, l4, l5⟩, -⟩ := ND6.out.sixP
              go_wp2_with fail
              generalize w5.alloc _ = w6 at *
              generalize w5.heap.size = gA at *
              go_at_call 10
              refine (make_ok _ _ w6 HD6.out (HBD.out.mono (by omega)) (HT.out.stays B6.out)).mono ?_
              rintro e w7 ⟨⟨vL2, vS2, rfl, hR7⟩, b7⟩
              rw [HM2.out.1] at hR7
              rw [HM2.out.1, HM2.out.2.1, ← HM2.out.2.2]
              obtain ⟨a3, b3, a4, b4, V7, ev, -, -, -, -, -, -⟩ := hR7.ex
              cases ev
              have b78 := b7.trans ((alloc_below w7 (.cells #[.int .i64 E.total, .int .i64 E.period, .int .i64 E.perSeat, .int .i64 E.most, .slice a3 E.levels.length b3, .slice a4 E.schemas.length b4, .int .u64 dg] 31)).mono b7.size)
              have B8 : Hd (Below w.heap.size w (w7.alloc (.cells #[.int .i64 E.total, .int .i64 E.period, .int .i64 E.perSeat, .int .i64 E.most, .slice a3 E.levels.length b3, .slice a4 E.schemas.length b4, .int .u64 dg] 31))) := ⟨B6.out.trans (b78.mono B6.out.size)⟩
              have NB8 : Hd (Blk (w7.alloc (.cells #[.int .i64 E.total, .int .i64 E.period, .int .i64 E.perSeat, .int .i64 E.most, .slice a3 E.levels.length b3, .slice a4 E.schemas.length b4, .int .u64 dg] 31)) w7.heap.size 31 #[.int .i64 E.total, .int .i64 E.period, .int .i64 E.perSeat, .int .i64 E.most, .slice a3 E.levels.length b3, .slice a4 E.schemas.length b4, .int .u64 dg]) := ⟨Blk.new w7 31 _⟩
              have NA8 : Hd (Blk (w7.alloc (.cells #[.int .i64 E.total, .int .i64 E.period, .int .i64 E.perSeat, .int .i64 E.most, .slice a3 E.levels.length b3, .slice a4 E.schemas.length b4, .int .u64 dg] 31)) gA 31 #[.int .i64 E.total, .int .i64 E.period, .int .i64 E.perSeat, .int .i64 E.most, .slice a1 E.levels.length b1, .slice a2 E.schemas.length b2, .int .u64 dg]) := ⟨NA6.out.kept (Kept.of_below b78 (fun _ => False)) id⟩
              have SM8 : Hd (∀ W, Below (w7.alloc (.cells #[.int .i64 E.total, .int .i64 E.period, .int .i64 E.perSeat, .int .i64 E.most, .slice a3 E.levels.length b3, .slice a4 E.schemas.length b4, .int .u64 dg] 31)).heap.size (w7.alloc (.cells #[.int .i64 E.total, .int .i64 E.period, .int .i64 E.perSeat, .int .i64 E.most, .slice a3 E.levels.length b3, .slice a4 E.schemas.length b4, .int .u64 dg] 31)) W → Calls Tryz.prog 14 #[.agg #[.int .i64 E.total, .int .i64 E.period, .int .i64 E.perSeat, .int .i64 E.most, .slice a1 E.levels.length b1, .slice a2 E.schemas.length b2], .agg #[.int .i64 E.total, .int .i64 E.period, .int .i64 E.perSeat, .int .i64 E.most, .slice a3 E.levels.length b3, .slice a4 E.schemas.length b4]] W fun e w' => e = .returned (.bool true) ∧ Below W.heap.size W w') := ⟨fun W b => same_cfr ((RA6.out.carry b78).carry b) ((hR7.carry (alloc_below w7 _)).carry b)⟩
              clear l0 l1 l2 l3 l4 l5 b7 b78 hR7 HD6 ND6 B6 NA6 RA6 HM2 HC HB HT HBD HPM
              go_upto_region 20 with fail
              generalize w7.alloc _ = w8 at *
              generalize w7.heap.size = gB at *
              have D8 : Below w8.heap.size w8 w8.drew := ⟨rfl, rfl, rfl, Nat.le_refl _, fun _ _ => rfl⟩
              have B9 : Hd (Below w.heap.size w w8.drew) := ⟨B8.out.trans (D8.mono B8.out.size)⟩
              have NA : Hd (Blk w8.drew gA 31 #[.int .i64 E.total, .int .i64 E.period, .int .i64 E.perSeat, .int .i64 E.most, .slice a1 E.levels.length b1, .slice a2 E.schemas.length b2, .int .u64 dg]) := ⟨NA8.out.kept (Kept.of_below D8 (fun _ => False)) id⟩
              have NB : Hd (Blk w8.drew gB 31 #[.int .i64 E.total, .int .i64 E.period, .int .i64 E.perSeat, .int .i64 E.most, .slice a3 E.levels.length b3, .slice a4 E.schemas.length b4, .int .u64 dg]) := ⟨NB8.out.kept (Kept.of_below D8 (fun _ => False)) id⟩
              have SM : Hd (∀ W, Below w8.drew.heap.size w8.drew W → _) := ⟨fun W b => SM8.out W (D8.trans b)⟩
              refine AnyG.start (T := Below w8.drew.heap.size w8.drew) (U := fun _ => True) (j0 := 100) (by kernel_rfl) ?_
              clear B8 NA8 NB8 SM8 D8
              generalize w8.drew = w9 at *
              have T0 : Below w9.heap.size w9 w9 := Below.refl _ _
              rcases Q12 with ⟨rfl, rfl⟩ | ⟨za, zb, zc, zd, rfl, rfl⟩
              · refine .tk 0 109 rfl rfl (by kernel_rfl) (fun _ _ _ h => h) ⟨T0, fun _ => trivial⟩ (by rfl) (fun w hSw => by go_simp; rfl) ?_; simp only [tkA, tkB, tkC]
                refine .tk 1 110 rfl rfl (by kernel_rfl) (fun _ _ _ h => h) ⟨T0, fun _ => trivial⟩ (by rfl) (fun w hSw => by go_simp; rfl) ?_; simp only [tkA, tkB, tkC]
                refine .tk 2 111 rfl rfl (by kernel_rfl) (fun _ _ _ h => h) ⟨T0, fun _ => trivial⟩ (by rfl) (fun w hSw => by go_simp; rfl) ?_; simp only [tkA, tkB, tkC]
                refine .tk 3 112 rfl rfl (by kernel_rfl) (fun _ _ _ h => h) ⟨T0, fun _ => trivial⟩ (by rfl) (fun w hSw => by go_simp; rfl) ?_; simp only [tkA, tkB, tkC]
                refine .tk 4 113 rfl rfl (by kernel_rfl) (fun _ _ _ h => h) ⟨T0, fun _ => trivial⟩ (by rfl) (fun w hSw => by go_simp; rfl) ?_; simp only [tkA, tkB, tkC]
                refine .tk 5 114 rfl rfl (by kernel_rfl) (fun _ _ _ h => h) ⟨T0, fun _ => trivial⟩ (by rfl) (fun w hSw => by go_simp; rfl) ?_; simp only [tkA, tkB, tkC]
                refine .tk 6 115 rfl rfl (by kernel_rfl) (fun _ _ _ h => h) ⟨T0, fun _ => trivial⟩ (by rfl) (fun w hSw => by go_simp; rfl) ?_; simp only [tkA, tkB, tkC]
                refine .tk 7 116 rfl rfl (by kernel_rfl) (fun _ _ _ h => h) ⟨T0, fun _ => trivial⟩ (by rfl) (fun w hSw => by obtain ⟨c0, c1, c2, c3, c4, c5, c6⟩ := (NA.out.kept (Kept.of_below hSw (fun _ => False)) id).seven; go_simp; rfl) ?_; simp only [tkA, tkB, tkC]
                refine .tk 8 117 rfl rfl (by kernel_rfl) (fun _ _ _ h => h) ⟨T0, fun _ => trivial⟩ (by rfl) (fun w hSw => by go_simp; rfl) ?_; simp only [tkA, tkB, tkC]
                refine .tk 9 118 rfl rfl (by kernel_rfl) (fun _ _ _ h => h) ⟨T0, fun _ => trivial⟩ (by rfl) (fun w hSw => by obtain ⟨c0, c1, c2, c3, c4, c5, c6⟩ := (NB.out.kept (Kept.of_below hSw (fun _ => False)) id).seven; go_simp; rfl) ?_; simp only [tkA, tkB, tkC]
                refine AnyG.ready (rs := [10]) (by kernel_rfl) (by simp) ?_
                refine AllG.cons rfl (fun K hK => ?_) AllG.nil
                go_simp
                refine (SM.out _ T0).mono ?_
                rintro e wk ⟨rfl, bk⟩
                have T1 : Below w9.heap.size w9 wk := T0.trans (bk.mono T0.size)
                refine hK.out _ _ ⟨T1, fun _ => trivial⟩ ?_
                clear hK K bk T0
                have T0 := T1
                clear T1
                refine .tk 11 120 rfl rfl (by kernel_rfl) (fun _ _ _ h => h) ⟨T0, fun _ => trivial⟩ (by rfl) (fun w hSw => by go_simp; rfl) ?_; simp only [tkA, tkB, tkC]
                refine .tk 12 121 rfl rfl (by kernel_rfl) (fun _ _ _ h => h) ⟨T0, fun _ => trivial⟩ (by rfl) (fun w hSw => by go_simp; rfl) ?_; simp only [tkA, tkB, tkC]
                refine .tk 13 122 rfl rfl (by kernel_rfl) (fun _ _ _ h => h) ⟨T0, fun _ => trivial⟩ (by rfl) (fun w hSw => by go_simp; rfl) ?_; simp only [tkA, tkB, tkC]
                refine .tk 14 123 rfl rfl (by kernel_rfl) (fun _ _ _ h => h) ⟨T0, fun _ => trivial⟩ (by rfl) (fun w hSw => by obtain ⟨c0, c1, c2, c3, c4, c5, c6⟩ := (NA.out.kept (Kept.of_below hSw (fun _ => False)) id).seven; go_simp; rfl) ?_; simp only [tkA, tkB, tkC]
                refine .tk 15 124 rfl rfl (by kernel_rfl) (fun _ _ _ h => h) ⟨T0, fun _ => trivial⟩ (by rfl) (fun w hSw => by go_simp; rfl) ?_; simp only [tkA, tkB, tkC]
                refine .tk 16 125 rfl rfl (by kernel_rfl) (fun _ _ _ h => h) ⟨T0, fun _ => trivial⟩ (by rfl) (fun w hSw => by obtain ⟨c0, c1, c2, c3, c4, c5, c6⟩ := (NB.out.kept (Kept.of_below hSw (fun _ => False)) id).seven; go_simp; rfl) ?_; simp only [tkA, tkB, tkC]
                refine .tk 17 126 rfl rfl (by kernel_rfl) (fun _ _ _ h => h) ⟨T0, fun _ => trivial⟩ (by rfl) (fun w hSw => by go_simp; rfl) ?_; simp only [tkA, tkB, tkC]
                refine .tk 18 127 rfl rfl (by kernel_rfl) (fun _ _ _ h => h) ⟨T0, fun _ => trivial⟩ (by rfl) (fun w hSw => by go_simp; rfl) ?_; simp only [tkA, tkB, tkC]
                refine .tk 19 6 rfl rfl (by kernel_rfl) (fun _ _ _ h => h) ⟨T0, fun _ => trivial⟩ (by rfl) (fun w hSw => by go_simp; rfl) ?_; simp only [tkA, tkB, tkC]
                refine AnyG.done (by kernel_rfl) ?_ _
                have BF : Hd (Below w.heap.size w wk) := ⟨B9.out.trans (T0.mono B9.out.size)⟩
                clear T0 NA NB SM
                go_wp2_with fail
                go_ret
                exact ⟨rfl, BF.out⟩
              · refine .tk 0 109 rfl rfl (by kernel_rfl) (fun _ _ _ h => h) ⟨T0, fun _ => trivial⟩ (by rfl) (fun w hSw => by go_simp; rfl) ?_; simp only [tkA, tkB, tkC]
                refine .tk 1 110 rfl rfl (by kernel_rfl) (fun _ _ _ h => h) ⟨T0, fun _ => trivial⟩ (by rfl) (fun w hSw => by go_simp; rfl) ?_; simp only [tkA, tkB, tkC]
                refine .tk 2 111 rfl rfl (by kernel_rfl) (fun _ _ _ h => h) ⟨T0, fun _ => trivial⟩ (by rfl) (fun w hSw => by go_simp; rfl) ?_; simp only [tkA, tkB, tkC]
                refine .tk 3 112 rfl rfl (by kernel_rfl) (fun _ _ _ h => h) ⟨T0, fun _ => trivial⟩ (by rfl) (fun w hSw => by go_simp; rfl) ?_; simp only [tkA, tkB, tkC]
                refine .tk 4 113 rfl rfl (by kernel_rfl) (fun _ _ _ h => h) ⟨T0, fun _ => trivial⟩ (by rfl) (fun w hSw => by go_simp; rfl) ?_; simp only [tkA, tkB, tkC]
                refine .tk 5 114 rfl rfl (by kernel_rfl) (fun _ _ _ h => h) ⟨T0, fun _ => trivial⟩ (by rfl) (fun w hSw => by go_simp; rfl) ?_; simp only [tkA, tkB, tkC]
                refine .tk 6 115 rfl rfl (by kernel_rfl) (fun _ _ _ h => h) ⟨T0, fun _ => trivial⟩ (by rfl) (fun w hSw => by go_simp; rfl) ?_; simp only [tkA, tkB, tkC]
                refine .tk 7 116 rfl rfl (by kernel_rfl) (fun _ _ _ h => h) ⟨T0, fun _ => trivial⟩ (by rfl) (fun w hSw => by obtain ⟨c0, c1, c2, c3, c4, c5, c6⟩ := (NA.out.kept (Kept.of_below hSw (fun _ => False)) id).seven; go_simp; rfl) ?_; simp only [tkA, tkB, tkC]
                refine .tk 8 117 rfl rfl (by kernel_rfl) (fun _ _ _ h => h) ⟨T0, fun _ => trivial⟩ (by rfl) (fun w hSw => by go_simp; rfl) ?_; simp only [tkA, tkB, tkC]
                refine .tk 9 118 rfl rfl (by kernel_rfl) (fun _ _ _ h => h) ⟨T0, fun _ => trivial⟩ (by rfl) (fun w hSw => by obtain ⟨c0, c1, c2, c3, c4, c5, c6⟩ := (NB.out.kept (Kept.of_below hSw (fun _ => False)) id).seven; go_simp; rfl) ?_; simp only [tkA, tkB, tkC]
                refine AnyG.ready (rs := [10]) (by kernel_rfl) (by simp) ?_
                refine AllG.cons rfl (fun K hK => ?_) AllG.nil
                go_simp
                refine (SM.out _ T0).mono ?_
                rintro e wk ⟨rfl, bk⟩
                have T1 : Below w9.heap.size w9 wk := T0.trans (bk.mono T0.size)
                refine hK.out _ _ ⟨T1, fun _ => trivial⟩ ?_
                clear hK K bk T0
                have T0 := T1
                clear T1
                refine .tk 11 120 rfl rfl (by kernel_rfl) (fun _ _ _ h => h) ⟨T0, fun _ => trivial⟩ (by rfl) (fun w hSw => by go_simp; rfl) ?_; simp only [tkA, tkB, tkC]
                refine .tk 12 121 rfl rfl (by kernel_rfl) (fun _ _ _ h => h) ⟨T0, fun _ => trivial⟩ (by rfl) (fun w hSw => by go_simp; rfl) ?_; simp only [tkA, tkB, tkC]
                refine .tk 13 122 rfl rfl (by kernel_rfl) (fun _ _ _ h => h) ⟨T0, fun _ => trivial⟩ (by rfl) (fun w hSw => by go_simp; rfl) ?_; simp only [tkA, tkB, tkC]
                refine .tk 14 123 rfl rfl (by kernel_rfl) (fun _ _ _ h => h) ⟨T0, fun _ => trivial⟩ (by rfl) (fun w hSw => by obtain ⟨c0, c1, c2, c3, c4, c5, c6⟩ := (NA.out.kept (Kept.of_below hSw (fun _ => False)) id).seven; go_simp; rfl) ?_; simp only [tkA, tkB, tkC]
                refine .tk 15 124 rfl rfl (by kernel_rfl) (fun _ _ _ h => h) ⟨T0, fun _ => trivial⟩ (by rfl) (fun w hSw => by go_simp; rfl) ?_; simp only [tkA, tkB, tkC]
                refine .tk 16 125 rfl rfl (by kernel_rfl) (fun _ _ _ h => h) ⟨T0, fun _ => trivial⟩ (by rfl) (fun w hSw => by obtain ⟨c0, c1, c2, c3, c4, c5, c6⟩ := (NB.out.kept (Kept.of_below hSw (fun _ => False)) id).seven; go_simp; rfl) ?_; simp only [tkA, tkB, tkC]
                refine .tk 17 126 rfl rfl (by kernel_rfl) (fun _ _ _ h => h) ⟨T0, fun _ => trivial⟩ (by rfl) (fun w hSw => by go_simp; rfl) ?_; simp only [tkA, tkB, tkC]
                refine .tk 18 127 rfl rfl (by kernel_rfl) (fun _ _ _ h => h) ⟨T0, fun _ => trivial⟩ (by rfl) (fun w hSw => by go_simp; rfl) ?_; simp only [tkA, tkB, tkC]
                refine .tk 19 6 rfl rfl (by kernel_rfl) (fun _ _ _ h => h) ⟨T0, fun _ => trivial⟩ (by rfl) (fun w hSw => by go_simp; rfl) ?_; simp only [tkA, tkB, tkC]
                refine AnyG.done (by kernel_rfl) ?_ _
                have BF : Hd (Below w.heap.size w wk) := ⟨B9.out.trans (T0.mono B9.out.size)⟩
                clear T0 NA NB SM
                go_wp2_with fail
                go_ret
                exact ⟨rfl, BF.out⟩
            · have HPM : Hd ((rotL L t).Perm L ∧ S.reverse.Perm S) := ⟨rot_perm L t, List.reverse_perm S⟩
              have HBD : Hd (Bnd 80 ⟨x0, x1, x2, x3, rotL L t, S.reverse⟩) := ⟨HB.out.turn HPM.out.1 HPM.out.2⟩
              have BW : Hd (Below w.heap.size w wr) := ⟨hI.out.b⟩
              have FC : Hd (Blk wr w.heap.size 25 _) := ⟨F2.out.kept (Kept.of_below hI.out.c (fun _ => False)) id⟩
              have ND : Hd (Blk wr gd 25 _) := ⟨hI.out.nd⟩
              have HD : Hd (CfR wr (.agg #[.int .i64 x0, .int .i64 x1, .int .i64 x2, .int .i64 x3, .slice aL k fL, .slice aS i fS]) ⟨x0, x1, x2, x3, rotL L t, S.reverse⟩) := ⟨hI.out.cfr (HP.out.1.trans HPM.out.1.length_eq.symm) (HP.out.2.trans (List.length_reverse ..).symm) (by rw [List.length_reverse, List.length_reverse]; exact HSC.out.1) HCap.out p9 r9 ⟨fun l hl => HNM.out.1 l (HPM.out.1.mem_iff.1 hl), fun l hl => HNM.out.2 l (HPM.out.2.mem_iff.1 hl)⟩ (rev_rlr HSC.out.1 (HSC.out.2.2 wr hI.out.b))⟩
              have o1 : ¬ ((1 : Int) < (k : Int)) := by omega
              clear hI hone HLC HSC HNM HCap HTt F2
              obtain ⟨⟨l0, l1, l2, l3, l4, l5⟩, -⟩ := FC.out.sixP
              go_wp2_with fail
              go_at_call 10
              refine (make_ok _ _ wr (HC.out _ BW.out) (HB.out.mono (by omega)) (HT.out.stays BW.out)).mono ?_
              rintro e w5 ⟨⟨vL1, vS1, rfl, hR5⟩, b5⟩
              have MT := mk_turn (C := ⟨x0, x1, x2, x3, L, S⟩) HPM.out.1 HPM.out.2
              simp only at MT
              obtain ⟨q1, hq1, hq1'⟩ := errV_two (mkE ⟨x0, x1, x2, x3, L, S⟩)
              obtain ⟨q2, hq2, hq2'⟩ := errV_two (mkE ⟨x0, x1, x2, x3, (rotL L t), S.reverse⟩)
              have Q12 : (q1 = .nilIface ∧ q2 = .nilIface) ∨ ∃ za zb zc zd, q1 = .iface 74 (.agg #[.int .i64 0, .string za, .iface 38 (.int .i64 zb)]) ∧ q2 = .iface 74 (.agg #[.int .i64 0, .string zc, .iface 38 (.int .i64 zd)]) := by
                rcases hq1' with ⟨e1, z1⟩ | ⟨za, zb, e1, z1⟩ <;> rcases hq2' with ⟨e2, z2⟩ | ⟨zc, zd, e2, z2⟩
                · exact .inl ⟨e1, e2⟩
                · exact absurd (MT.1.2 z1) z2
                · exact absurd (MT.1.1 z2) z1
                · exact .inr ⟨za, zb, zc, zd, e1, e2⟩
              have HM2 : Hd (mkC ⟨x0, x1, x2, x3, (rotL L t), S.reverse⟩ = mkC ⟨x0, x1, x2, x3, L, S⟩ ∧ mkD ⟨x0, x1, x2, x3, (rotL L t), S.reverse⟩ = mkD ⟨x0, x1, x2, x3, L, S⟩ ∧ q2 = errV (mkE ⟨x0, x1, x2, x3, (rotL L t), S.reverse⟩)) := ⟨MT.2.1, MT.2.2, hq2⟩
              rw [← hq1]
              clear hq1 hq2 hq1' hq2' MT
              generalize mkC ⟨x0, x1, x2, x3, L, S⟩ = E at *
              generalize mkD ⟨x0, x1, x2, x3, L, S⟩ = dg at *
              obtain ⟨a1, b1, a2, b2, V5, ev, -, -, -, -, -, -⟩ := hR5.ex
              cases ev
              have b56 := b5.trans ((alloc_below w5 (.cells #[.int .i64 E.total, .int .i64 E.period, .int .i64 E.perSeat, .int .i64 E.most, .slice a1 E.levels.length b1, .slice a2 E.schemas.length b2, .int .u64 dg] 31)).mono b5.size)
              have B6 : Hd (Below w.heap.size w (w5.alloc (.cells #[.int .i64 E.total, .int .i64 E.period, .int .i64 E.perSeat, .int .i64 E.most, .slice a1 E.levels.length b1, .slice a2 E.schemas.length b2, .int .u64 dg] 31))) := ⟨BW.out.trans (b56.mono BW.out.size)⟩
              have NA6 : Hd (Blk (w5.alloc (.cells #[.int .i64 E.total, .int .i64 E.period, .int .i64 E.perSeat, .int .i64 E.most, .slice a1 E.levels.length b1, .slice a2 E.schemas.length b2, .int .u64 dg] 31)) w5.heap.size 31 #[.int .i64 E.total, .int .i64 E.period, .int .i64 E.perSeat, .int .i64 E.most, .slice a1 E.levels.length b1, .slice a2 E.schemas.length b2, .int .u64 dg]) := ⟨Blk.new w5 31 _⟩
              have RA6 : Hd (CfR (w5.alloc (.cells #[.int .i64 E.total, .int .i64 E.period, .int .i64 E.perSeat, .int .i64 E.most, .slice a1 E.levels.length b1, .slice a2 E.schemas.length b2, .int .u64 dg] 31)) (.agg #[.int .i64 E.total, .int .i64 E.period, .int .i64 E.perSeat, .int .i64 E.most, .slice a1 E.levels.length b1, .slice a2 E.schemas.length b2]) E) := ⟨hR5.carry (alloc_below w5 _)⟩
              have HD6 : Hd (CfR (w5.alloc (.cells #[.int .i64 E.total, .int .i64 E.period, .int .i64 E.perSeat, .int .i64 E.most, .slice a1 E.levels.length b1, .slice a2 E.schemas.length b2, .int .u64 dg] 31)) _ _) := ⟨HD.out.carry b56⟩
              have ND6 : Hd (Blk (w5.alloc (.cells #[.int .i64 E.total, .int .i64 E.period, .int .i64 E.perSeat, .int .i64 E.most, .slice a1 E.levels.length b1, .slice a2 E.schemas.length b2, .int .u64 dg] 31)) gd 25 _) := ⟨ND.out.kept (Kept.of_below b56 (fun _ => False)) id⟩
              clear l0 l1 l2 l3 l4 l5 b5 b56 hR5 HD ND FC BW
              obtain ⟨⟨l0, l1, l2, l3, l4, l5⟩, -⟩ := ND6.out.sixP
              go_wp2_with fail
              generalize w5.alloc _ = w6 at *
              generalize w5.heap.size = gA at *
              go_at_call 10
              refine (make_ok _ _ w6 HD6.out (HBD.out.mono (by omega)) (HT.out.stays B6.out)).mono ?_
              rintro e w7 ⟨⟨vL2, vS2, rfl, hR7⟩, b7⟩
              rw [HM2.out.1] at hR7
              rw [HM2.out.1, HM2.out.2.1, ← HM2.out.2.2]
              obtain ⟨a3, b3, a4, b4, V7, ev, -, -, -, -, -, -⟩ := hR7.ex
              cases ev
              have b78 := b7.trans ((alloc_below w7 (.cells #[.int .i64 E.total, .int .i64 E.period, .int .i64 E.perSeat, .int .i64 E.most, .slice a3 E.levels.length b3, .slice a4 E.schemas.length b4, .int .u64 dg] 31)).mono b7.size)
              have B8 : Hd (Below w.heap.size w (w7.alloc (.cells #[.int .i64 E.total, .int .i64 E.period, .int .i64 E.perSeat, .int .i64 E.most, .slice a3 E.levels.length b3, .slice a4 E.schemas.length b4, .int .u64 dg] 31))) := ⟨B6.out.trans (b78.mono B6.out.size)⟩
              have NB8 : Hd (Blk (w7.alloc (.cells #[.int .i64 E.total, .int .i64 E.period, .int .i64 E.perSeat, .int .i64 E.most, .slice a3 E.levels.length b3, .slice a4 E.schemas.length b4, .int .u64 dg] 31)) w7.heap.size 31 #[.int .i64 E.total, .int .i64 E.period, .int .i64 E.perSeat, .int .i64 E.most, .slice a3 E.levels.length b3, .slice a4 E.schemas.length b4, .int .u64 dg]) := ⟨Blk.new w7 31 _⟩
              have NA8 : Hd (Blk (w7.alloc (.cells #[.int .i64 E.total, .int .i64 E.period, .int .i64 E.perSeat, .int .i64 E.most, .slice a3 E.levels.length b3, .slice a4 E.schemas.length b4, .int .u64 dg] 31)) gA 31 #[.int .i64 E.total, .int .i64 E.period, .int .i64 E.perSeat, .int .i64 E.most, .slice a1 E.levels.length b1, .slice a2 E.schemas.length b2, .int .u64 dg]) := ⟨NA6.out.kept (Kept.of_below b78 (fun _ => False)) id⟩
              have SM8 : Hd (∀ W, Below (w7.alloc (.cells #[.int .i64 E.total, .int .i64 E.period, .int .i64 E.perSeat, .int .i64 E.most, .slice a3 E.levels.length b3, .slice a4 E.schemas.length b4, .int .u64 dg] 31)).heap.size (w7.alloc (.cells #[.int .i64 E.total, .int .i64 E.period, .int .i64 E.perSeat, .int .i64 E.most, .slice a3 E.levels.length b3, .slice a4 E.schemas.length b4, .int .u64 dg] 31)) W → Calls Tryz.prog 14 #[.agg #[.int .i64 E.total, .int .i64 E.period, .int .i64 E.perSeat, .int .i64 E.most, .slice a1 E.levels.length b1, .slice a2 E.schemas.length b2], .agg #[.int .i64 E.total, .int .i64 E.period, .int .i64 E.perSeat, .int .i64 E.most, .slice a3 E.levels.length b3, .slice a4 E.schemas.length b4]] W fun e w' => e = .returned (.bool true) ∧ Below W.heap.size W w') := ⟨fun W b => same_cfr ((RA6.out.carry b78).carry b) ((hR7.carry (alloc_below w7 _)).carry b)⟩
              clear l0 l1 l2 l3 l4 l5 b7 b78 hR7 HD6 ND6 B6 NA6 RA6 HM2 HC HB HT HBD HPM
              go_upto_region 20 with fail
              generalize w7.alloc _ = w8 at *
              generalize w7.heap.size = gB at *
              have D8 : Below w8.heap.size w8 w8.drew := ⟨rfl, rfl, rfl, Nat.le_refl _, fun _ _ => rfl⟩
              have B9 : Hd (Below w.heap.size w w8.drew) := ⟨B8.out.trans (D8.mono B8.out.size)⟩
              have NA : Hd (Blk w8.drew gA 31 #[.int .i64 E.total, .int .i64 E.period, .int .i64 E.perSeat, .int .i64 E.most, .slice a1 E.levels.length b1, .slice a2 E.schemas.length b2, .int .u64 dg]) := ⟨NA8.out.kept (Kept.of_below D8 (fun _ => False)) id⟩
              have NB : Hd (Blk w8.drew gB 31 #[.int .i64 E.total, .int .i64 E.period, .int .i64 E.perSeat, .int .i64 E.most, .slice a3 E.levels.length b3, .slice a4 E.schemas.length b4, .int .u64 dg]) := ⟨NB8.out.kept (Kept.of_below D8 (fun _ => False)) id⟩
              have SM : Hd (∀ W, Below w8.drew.heap.size w8.drew W → _) := ⟨fun W b => SM8.out W (D8.trans b)⟩
              refine AnyG.start (T := Below w8.drew.heap.size w8.drew) (U := fun _ => True) (j0 := 100) (by kernel_rfl) ?_
              clear B8 NA8 NB8 SM8 D8
              generalize w8.drew = w9 at *
              have T0 : Below w9.heap.size w9 w9 := Below.refl _ _
              rcases Q12 with ⟨rfl, rfl⟩ | ⟨za, zb, zc, zd, rfl, rfl⟩
              · refine .tk 0 109 rfl rfl (by kernel_rfl) (fun _ _ _ h => h) ⟨T0, fun _ => trivial⟩ (by rfl) (fun w hSw => by go_simp; rfl) ?_; simp only [tkA, tkB, tkC]
                refine .tk 1 110 rfl rfl (by kernel_rfl) (fun _ _ _ h => h) ⟨T0, fun _ => trivial⟩ (by rfl) (fun w hSw => by go_simp; rfl) ?_; simp only [tkA, tkB, tkC]
                refine .tk 2 111 rfl rfl (by kernel_rfl) (fun _ _ _ h => h) ⟨T0, fun _ => trivial⟩ (by rfl) (fun w hSw => by go_simp; rfl) ?_; simp only [tkA, tkB, tkC]
                refine .tk 3 112 rfl rfl (by kernel_rfl) (fun _ _ _ h => h) ⟨T0, fun _ => trivial⟩ (by rfl) (fun w hSw => by go_simp; rfl) ?_; simp only [tkA, tkB, tkC]
                refine .tk 4 113 rfl rfl (by kernel_rfl) (fun _ _ _ h => h) ⟨T0, fun _ => trivial⟩ (by rfl) (fun w hSw => by go_simp; rfl) ?_; simp only [tkA, tkB, tkC]
                refine .tk 5 114 rfl rfl (by kernel_rfl) (fun _ _ _ h => h) ⟨T0, fun _ => trivial⟩ (by rfl) (fun w hSw => by go_simp; rfl) ?_; simp only [tkA, tkB, tkC]
                refine .tk 6 115 rfl rfl (by kernel_rfl) (fun _ _ _ h => h) ⟨T0, fun _ => trivial⟩ (by rfl) (fun w hSw => by go_simp; rfl) ?_; simp only [tkA, tkB, tkC]
                refine .tk 7 116 rfl rfl (by kernel_rfl) (fun _ _ _ h => h) ⟨T0, fun _ => trivial⟩ (by rfl) (fun w hSw => by obtain ⟨c0, c1, c2, c3, c4, c5, c6⟩ := (NA.out.kept (Kept.of_below hSw (fun _ => False)) id).seven; go_simp; rfl) ?_; simp only [tkA, tkB, tkC]
                refine .tk 8 117 rfl rfl (by kernel_rfl) (fun _ _ _ h => h) ⟨T0, fun _ => trivial⟩ (by rfl) (fun w hSw => by go_simp; rfl) ?_; simp only [tkA, tkB, tkC]
                refine .tk 9 118 rfl rfl (by kernel_rfl) (fun _ _ _ h => h) ⟨T0, fun _ => trivial⟩ (by rfl) (fun w hSw => by obtain ⟨c0, c1, c2, c3, c4, c5, c6⟩ := (NB.out.kept (Kept.of_below hSw (fun _ => False)) id).seven; go_simp; rfl) ?_; simp only [tkA, tkB, tkC]
                refine AnyG.ready (rs := [10]) (by kernel_rfl) (by simp) ?_
                refine AllG.cons rfl (fun K hK => ?_) AllG.nil
                go_simp
                refine (SM.out _ T0).mono ?_
                rintro e wk ⟨rfl, bk⟩
                have T1 : Below w9.heap.size w9 wk := T0.trans (bk.mono T0.size)
                refine hK.out _ _ ⟨T1, fun _ => trivial⟩ ?_
                clear hK K bk T0
                have T0 := T1
                clear T1
                refine .tk 11 120 rfl rfl (by kernel_rfl) (fun _ _ _ h => h) ⟨T0, fun _ => trivial⟩ (by rfl) (fun w hSw => by go_simp; rfl) ?_; simp only [tkA, tkB, tkC]
                refine .tk 12 121 rfl rfl (by kernel_rfl) (fun _ _ _ h => h) ⟨T0, fun _ => trivial⟩ (by rfl) (fun w hSw => by go_simp; rfl) ?_; simp only [tkA, tkB, tkC]
                refine .tk 13 122 rfl rfl (by kernel_rfl) (fun _ _ _ h => h) ⟨T0, fun _ => trivial⟩ (by rfl) (fun w hSw => by go_simp; rfl) ?_; simp only [tkA, tkB, tkC]
                refine .tk 14 123 rfl rfl (by kernel_rfl) (fun _ _ _ h => h) ⟨T0, fun _ => trivial⟩ (by rfl) (fun w hSw => by obtain ⟨c0, c1, c2, c3, c4, c5, c6⟩ := (NA.out.kept (Kept.of_below hSw (fun _ => False)) id).seven; go_simp; rfl) ?_; simp only [tkA, tkB, tkC]
                refine .tk 15 124 rfl rfl (by kernel_rfl) (fun _ _ _ h => h) ⟨T0, fun _ => trivial⟩ (by rfl) (fun w hSw => by go_simp; rfl) ?_; simp only [tkA, tkB, tkC]
                refine .tk 16 125 rfl rfl (by kernel_rfl) (fun _ _ _ h => h) ⟨T0, fun _ => trivial⟩ (by rfl) (fun w hSw => by obtain ⟨c0, c1, c2, c3, c4, c5, c6⟩ := (NB.out.kept (Kept.of_below hSw (fun _ => False)) id).seven; go_simp; rfl) ?_; simp only [tkA, tkB, tkC]
                refine .tk 17 126 rfl rfl (by kernel_rfl) (fun _ _ _ h => h) ⟨T0, fun _ => trivial⟩ (by rfl) (fun w hSw => by go_simp; rfl) ?_; simp only [tkA, tkB, tkC]
                refine .tk 18 127 rfl rfl (by kernel_rfl) (fun _ _ _ h => h) ⟨T0, fun _ => trivial⟩ (by rfl) (fun w hSw => by go_simp; rfl) ?_; simp only [tkA, tkB, tkC]
                refine .tk 19 6 rfl rfl (by kernel_rfl) (fun _ _ _ h => h) ⟨T0, fun _ => trivial⟩ (by rfl) (fun w hSw => by go_simp; rfl) ?_; simp only [tkA, tkB, tkC]
                refine AnyG.done (by kernel_rfl) ?_ _
                have BF : Hd (Below w.heap.size w wk) := ⟨B9.out.trans (T0.mono B9.out.size)⟩
                clear T0 NA NB SM
                go_wp2_with fail
                go_ret
                exact ⟨rfl, BF.out⟩
              · refine .tk 0 109 rfl rfl (by kernel_rfl) (fun _ _ _ h => h) ⟨T0, fun _ => trivial⟩ (by rfl) (fun w hSw => by go_simp; rfl) ?_; simp only [tkA, tkB, tkC]
                refine .tk 1 110 rfl rfl (by kernel_rfl) (fun _ _ _ h => h) ⟨T0, fun _ => trivial⟩ (by rfl) (fun w hSw => by go_simp; rfl) ?_; simp only [tkA, tkB, tkC]
                refine .tk 2 111 rfl rfl (by kernel_rfl) (fun _ _ _ h => h) ⟨T0, fun _ => trivial⟩ (by rfl) (fun w hSw => by go_simp; rfl) ?_; simp only [tkA, tkB, tkC]
                refine .tk 3 112 rfl rfl (by kernel_rfl) (fun _ _ _ h => h) ⟨T0, fun _ => trivial⟩ (by rfl) (fun w hSw => by go_simp; rfl) ?_; simp only [tkA, tkB, tkC]
                refine .tk 4 113 rfl rfl (by kernel_rfl) (fun _ _ _ h => h) ⟨T0, fun _ => trivial⟩ (by rfl) (fun w hSw => by go_simp; rfl) ?_; simp only [tkA, tkB, tkC]
                refine .tk 5 114 rfl rfl (by kernel_rfl) (fun _ _ _ h => h) ⟨T0, fun _ => trivial⟩ (by rfl) (fun w hSw => by go_simp; rfl) ?_; simp only [tkA, tkB, tkC]
                refine .tk 6 115 rfl rfl (by kernel_rfl) (fun _ _ _ h => h) ⟨T0, fun _ => trivial⟩ (by rfl) (fun w hSw => by go_simp; rfl) ?_; simp only [tkA, tkB, tkC]
                refine .tk 7 116 rfl rfl (by kernel_rfl) (fun _ _ _ h => h) ⟨T0, fun _ => trivial⟩ (by rfl) (fun w hSw => by obtain ⟨c0, c1, c2, c3, c4, c5, c6⟩ := (NA.out.kept (Kept.of_below hSw (fun _ => False)) id).seven; go_simp; rfl) ?_; simp only [tkA, tkB, tkC]
                refine .tk 8 117 rfl rfl (by kernel_rfl) (fun _ _ _ h => h) ⟨T0, fun _ => trivial⟩ (by rfl) (fun w hSw => by go_simp; rfl) ?_; simp only [tkA, tkB, tkC]
                refine .tk 9 118 rfl rfl (by kernel_rfl) (fun _ _ _ h => h) ⟨T0, fun _ => trivial⟩ (by rfl) (fun w hSw => by obtain ⟨c0, c1, c2, c3, c4, c5, c6⟩ := (NB.out.kept (Kept.of_below hSw (fun _ => False)) id).seven; go_simp; rfl) ?_; simp only [tkA, tkB, tkC]
                refine AnyG.ready (rs := [10]) (by kernel_rfl) (by simp) ?_
                refine AllG.cons rfl (fun K hK => ?_) AllG.nil
                go_simp
                refine (SM.out _ T0).mono ?_
                rintro e wk ⟨rfl, bk⟩
                have T1 : Below w9.heap.size w9 wk := T0.trans (bk.mono T0.size)
                refine hK.out _ _ ⟨T1, fun _ => trivial⟩ ?_
                clear hK K bk T0
                have T0 := T1
                clear T1
                refine .tk 11 120 rfl rfl (by kernel_rfl) (fun _ _ _ h => h) ⟨T0, fun _ => trivial⟩ (by rfl) (fun w hSw => by go_simp; rfl) ?_; simp only [tkA, tkB, tkC]
                refine .tk 12 121 rfl rfl (by kernel_rfl) (fun _ _ _ h => h) ⟨T0, fun _ => trivial⟩ (by rfl) (fun w hSw => by go_simp; rfl) ?_; simp only [tkA, tkB, tkC]
                refine .tk 13 122 rfl rfl (by kernel_rfl) (fun _ _ _ h => h) ⟨T0, fun _ => trivial⟩ (by rfl) (fun w hSw => by go_simp; rfl) ?_; simp only [tkA, tkB, tkC]
                refine .tk 14 123 rfl rfl (by kernel_rfl) (fun _ _ _ h => h) ⟨T0, fun _ => trivial⟩ (by rfl) (fun w hSw => by obtain ⟨c0, c1, c2, c3, c4, c5, c6⟩ := (NA.out.kept (Kept.of_below hSw (fun _ => False)) id).seven; go_simp; rfl) ?_; simp only [tkA, tkB, tkC]
                refine .tk 15 124 rfl rfl (by kernel_rfl) (fun _ _ _ h => h) ⟨T0, fun _ => trivial⟩ (by rfl) (fun w hSw => by go_simp; rfl) ?_; simp only [tkA, tkB, tkC]
                refine .tk 16 125 rfl rfl (by kernel_rfl) (fun _ _ _ h => h) ⟨T0, fun _ => trivial⟩ (by rfl) (fun w hSw => by obtain ⟨c0, c1, c2, c3, c4, c5, c6⟩ := (NB.out.kept (Kept.of_below hSw (fun _ => False)) id).seven; go_simp; rfl) ?_; simp only [tkA, tkB, tkC]
                refine .tk 17 126 rfl rfl (by kernel_rfl) (fun _ _ _ h => h) ⟨T0, fun _ => trivial⟩ (by rfl) (fun w hSw => by go_simp; rfl) ?_; simp only [tkA, tkB, tkC]
                refine .tk 18 127 rfl rfl (by kernel_rfl) (fun _ _ _ h => h) ⟨T0, fun _ => trivial⟩ (by rfl) (fun w hSw => by go_simp; rfl) ?_; simp only [tkA, tkB, tkC]
                refine .tk 19 6 rfl rfl (by kernel_rfl) (fun _ _ _ h => h) ⟨T0, fun _ => trivial⟩ (by rfl) (fun w hSw => by go_simp; rfl) ?_; simp only [tkA, tkB, tkC]
                refine AnyG.done (by kernel_rfl) ?_ _
                have BF : Hd (Below w.heap.size w wk) := ⟨B9.out.trans (T0.mono B9.out.size)⟩
                clear T0 NA NB SM
                go_wp2_with fail
                go_ret
                exact ⟨rfl, BF.out⟩
end Go.Proofs.YthkdbphgiobcdaaGreatDoor
