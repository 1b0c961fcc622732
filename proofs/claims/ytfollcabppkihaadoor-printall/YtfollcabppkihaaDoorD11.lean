/-
  What 'schemasFormed' and 'Formed' of 'print' answer. Condition: the configuration lies in memory.
  A line of words; numbers as digits; what may be borrowed. Conditions: the library's table of powers is laid; as each theorem says them.
-/
import Derived.Test.YtfollcabppkihaaDoorD7
import Derived.Test.YtfollcabppkihaaDoorD10
import Derived.Test.YtfollcabppkihaaDoorD9
import Derived.Test.YtfollcabppkihaaDoorD2
import Derived.Lib.AppendIntMem
namespace Go.Proofs.YtfollcabppkihaaDoor
open Go.RowKit

/-- The k-th has no other one of its name ahead. -/
def freshS (L : List Sc) (k : Nat) (h : k < L.length) : Bool := !((L.take k).any fun l => decide (l.name = L[k].name))
theorem freshS_iff {L : List Sc} {k : Nat} {h : k < L.length} : freshS L k h = true ↔ ∀ j (hj : j < k), L[j].name ≠ L[k].name := by
  unfold freshS
  rw [Bool.not_eq_true', List.any_eq_false]
  constructor
  · intro H j hj
    have := H L[j] (by rw [List.mem_take_iff_getElem]; exact ⟨j, by omega, rfl⟩)
    simpa using this
  · intro H l hl
    rw [List.mem_take_iff_getElem] at hl
    obtain ⟨j, hj, rfl⟩ := hl
    simpa using H j (by omega)
theorem schemas_bad {L : List Sc} {k : Nat} (h : k < L.length) (hb : freshS L k h = false ∨ scOk L[k] = false) : schemasOk L = false := by
  cases hL : schemasOk L with
  | false => rfl
  | true =>
    unfold schemasOk at hL
    simp only [Bool.and_eq_true, decide_eq_true_eq, List.all_eq_true] at hL
    rcases hb with hb | hb
    · have : freshS L k h = true := freshS_iff.2 fun j hj => List.pairwise_iff_getElem.1 hL.2.2 j k (by omega) h hj
      rw [hb] at this
      cases this
    · have := hL.2.1 L[k] (List.getElem_mem h)
      rw [hb] at this
      cases this
theorem schemas_good {L : List Sc} (h16 : L.length ≤ 32) (h : ∀ k (h : k < L.length), freshS L k h = true ∧ scOk L[k] = true) : schemasOk L = true := by
  unfold schemasOk
  simp only [Bool.and_eq_true, decide_eq_true_eq, List.all_eq_true]
  refine ⟨h16, fun l hl => ?_, List.pairwise_iff_getElem.2 fun i j hi hj hij => freshS_iff.1 (h j hj).1 i hij⟩
  obtain ⟨k, hk, rfl⟩ := List.getElem_of_mem hl
  exact (h k hk).2
theorem ScR.take {w : World} {b off : Nat} {L : List Sc} {V : List Value} (hc : ∀ k (h : k < L.length) (h' : k < V.length), ∀ j, j < 5 → w.cell? ⟨b, off + k * 5 + j, none⟩ = (scC L[k] V[k])[j]?) (hb : b < w.heap.size) (n : Nat) : ScR w (some ⟨b, off, none⟩) (L.take n) (V.take n) := fun _ =>
  ⟨b, off, rfl, hb, fun k hk hk' j hj => by rw [List.getElem_take, List.getElem_take]; exact hc k (by rw [List.length_take] at hk; omega) (by rw [List.length_take] at hk'; omega) j hj⟩

set_option maxRecDepth 20000 in
theorem schemas_ok (a : Option Addr) (c : Nat) (L : List Sc) (V : List Value) (w : World) (hr : ScR w a L V) (hV : V.length = L.length) (hRl : ∀ k (h : k < L.length) (h' : k < V.length), RlR w V[k] L[k].rules) (hc : L.length ≤ c) (hl : L.length ≤ 9223372036854775807) (hn : ∀ l ∈ L, l.name.size ≤ 9223372036854775807 ∧ l.level.size ≤ 9223372036854775807) :
    Calls Tryd.prog 23 #[.slice a L.length c] w fun e w' => e = .returned (.bool (schemasOk L)) ∧ Below w.heap.size w w' := by
  by_cases h16 : 32 < L.length
  · have e : schemasOk L = false := by unfold schemasOk; rw [decide_eq_false (by omega)]; rfl
    rw [e]
    clear e hr hn hc hRl hV
    generalize L.length = n at *
    go_enter Tryd.func23, Tryd.ntmps23
    go_wp2_with fail
    go_ret
    exact ⟨rfl, Below.refl _ _⟩
  have HL : Hd (L.length ≤ 32) := ⟨by omega⟩
  have HB : Hd (∀ k (h : k < L.length), (freshS L k h = false ∨ scOk L[k] = false) → schemasOk L = false) := ⟨fun k h => schemas_bad h⟩
  have HG : Hd ((∀ k (h : k < L.length), freshS L k h = true ∧ scOk L[k] = true) → schemasOk L = true) := ⟨schemas_good (by omega)⟩
  have HR : Hd (ScR w a L V ∧ (∀ l ∈ L, l.name.size ≤ 9223372036854775807 ∧ l.level.size ≤ 9223372036854775807) ∧ V.length = L.length ∧ ∀ k (h : k < L.length) (h' : k < V.length), RlR w V[k] L[k].rules) := ⟨hr, hn, hV, hRl⟩
  generalize schemasOk L = R at *
  obtain ⟨n, hnl⟩ : ∃ n, n = L.length := ⟨_, rfl⟩
  have HN : Hd (n = L.length) := ⟨hnl⟩
  rw [← hnl]
  rw [← hnl] at hc
  have n16 : n ≤ 32 := by omega
  clear hr hn hl h16 hnl hV hRl
  go_enter Tryd.func23, Tryd.ntmps23
  go_wp2_with fail
  go_loopw [3, 4, 5, 11] (fun i3 i4 i5 i wr => ∃ k : Nat, k ≤ n ∧ i = .int .i64 k ∧ Hd ((∀ j (h : j < L.length), j < k → freshS L j h = true ∧ scOk L[j] = true) ∧ Below w.heap.size w wr)) (fun _ _ _ i _ => n - (intOf i).toNat)
  case atStart => exact ⟨0, Nat.zero_le _, rfl, ⟨fun _ _ h => absurd h (Nat.not_lt_zero _), Below.refl _ _⟩⟩
  case round =>
    obtain ⟨k, hk, rfl, hI⟩ := hrel
    by_cases hlt : k < n
    · have hkL : k < L.length := by rw [← HN.out]; exact hlt
      obtain ⟨b, off, rfl, hb, hcs⟩ := (HR.out.1.carry hI.out.2) (by omega)
      have hkV : k < V.length := by rw [HR.out.2.2.1]; exact hkL
      have x0 : wr.cell? ⟨b, off + k * 5, none⟩ = some (.string L[k].name) := hcs k hkL hkV 0 (by decide)
      have x1 : wr.cell? ⟨b, off + k * 5 + 1, none⟩ = some (.string L[k].level) := hcs k hkL hkV 1 (by decide)
      have x2 : wr.cell? ⟨b, off + k * 5 + 2, none⟩ = some (.int .i64 L[k].rank) := hcs k hkL hkV 2 (by decide)
      have x3 : wr.cell? ⟨b, off + k * 5 + 3, none⟩ = some (.int .i64 L[k].way) := hcs k hkL hkV 3 (by decide)
      have x4 : wr.cell? ⟨b, off + k * 5 + 4, none⟩ = some V[k] := hcs k hkL hkV 4 (by decide)
      have HRl : Hd (RlR wr V[k] L[k].rules) := ⟨(HR.out.2.2.2 k hkL hkV).carry hI.out.2⟩
      obtain ⟨va, vc, eV, -⟩ := id HRl.out
      have AL := alloc_below wr (.cells #[.string L[k].name, .string L[k].level, .int .i64 L[k].rank, .int .i64 L[k].way, V[k]] 40)
      have NB := Blk.new wr 40 #[.string L[k].name, .string L[k].level, .int .i64 L[k].rank, .int .i64 L[k].way, V[k]]
      have PH := phasSc (some ⟨b, off, none⟩) c (L.take k) (V.take k) wr.heap.size L[k].name (wr.alloc (.cells #[.string L[k].name, .string L[k].level, .int .i64 L[k].rank, .int .i64 L[k].way, V[k]] 40)) (NB.cellv 0 rfl) ((ScR.take hcs hb k).carry AL) (by rw [List.length_take, List.length_take, HR.out.2.2.1]) (by rw [List.length_take]; omega)
      have LO : Hd (∀ W, Below wr.heap.size wr W → Calls Tryd.prog 42 #[.agg #[.string L[k].name, .string L[k].level, .int .i64 L[k].rank, .int .i64 L[k].way, V[k]]] W fun e w' => e = .returned (.bool (scOk L[k])) ∧ Below W.heap.size W w') := ⟨fun W hW => schema_ok L[k] V[k] W (HRl.out.carry hW) (HR.out.2.1 L[k] (List.getElem_mem hkL)).1 (HR.out.2.1 L[k] (List.getElem_mem hkL)).2⟩
      have hf : ((L.take k).any fun l => decide (l.name = L[k].name)) = !freshS L k hkL := by unfold freshS; rw [Bool.not_not]
      have hlen : (L.take k).length = k := by rw [List.length_take]; omega
      rw [hf, hlen] at PH
      have HBad : Hd ((freshS L k hkL = false ∨ scOk L[k] = false) → R = false) := ⟨HB.out k hkL⟩
      have HStep : Hd (freshS L k hkL = true → scOk L[k] = true → ∀ j (h : j < L.length), j < k + 1 → freshS L j h = true ∧ scOk L[j] = true) := ⟨fun h1 h2 j hj hjk => by
        rcases Nat.lt_or_eq_of_le (Nat.le_of_lt_succ hjk) with h' | h'
        · exact hI.out.1 j hj h'
        · subst h'; exact ⟨h1, h2⟩⟩
      have B1 : Hd (Below w.heap.size w (wr.alloc (.cells #[.string L[k].name, .string L[k].level, .int .i64 L[k].rank, .int .i64 L[k].way, V[k]] 40))) := ⟨hI.out.2.trans (AL.mono hI.out.2.size)⟩
      have HK : Hd (k < n) := ⟨hlt⟩
      have AL0 : Hd _ := ⟨AL⟩
      clear hcs hf hlen AL hI HRl
      generalize freshS L k hkL = fr at *
      generalize L[k] = l at *
      generalize V[k] = vv at *
      clear hkL hkV
      generalize l.rules.length = rn at *
      subst eV
      have i1 : (k : Int) < (n : Int) := by omega
      go_upto_region 6 with fail
      generalize wr.alloc _ = w1 at *
      clear x0 x1 x2 x3 x4
      go_wp2_with fail
      go_at_call 40
      refine PH.mono ?_
      rintro e w2 ⟨rfl, b2⟩
      have B2 : Hd (Below w.heap.size w w2) := ⟨B1.out.trans (b2.mono B1.out.size)⟩
      have N2 := NB.kept (Kept.of_below b2 (fun _ => False)) id
      have LO2 := LO.out w2 (AL0.out.trans (b2.mono AL0.out.size))
      clear PH NB b2 B1 LO AL0
      cases fr with
      | false =>
        have hR := HBad.out (.inl rfl)
        subst hR
        go_wp2_with fail
        go_ret
        exact ⟨rfl, B2.out⟩
      | true =>
        have d0 := N2.cellv 0 rfl
        have d1 := N2.cellv 1 rfl
        have d2 := N2.cellv 2 rfl
        have d3 := N2.cellv 3 rfl
        have d4 := N2.cellv 4 rfl
        simp at d0 d1 d2 d3 d4
        clear N2
        generalize scOk l = ok at *
        cases ok with
        | false =>
          have hR := HBad.out (.inr rfl)
          subst hR
          go_wp2_with (go_at_call 42; refine LO2.mono ?_; rintro e w3 ⟨rfl, b3⟩)
          go_ret
          exact ⟨rfl, B2.out.trans (b3.mono B2.out.size)⟩
        | true =>
          go_wp2_with (go_at_call 42; refine LO2.mono ?_; rintro e w3 ⟨rfl, b3⟩)
          have F3 : Hd ((∀ j (h : j < L.length), j < k + 1 → freshS L j h = true ∧ scOk L[j] = true) ∧ Below w.heap.size w w3) := ⟨HStep.out (by first | exact rfl | trivial) (by first | exact rfl | trivial), B2.out.trans (b3.mono B2.out.size)⟩
          go_roundw
          case rel =>
            first
              | exact ⟨k + 1, HK.out, by go_num, F3⟩
              | ((repeat apply Exists.intro); exact ⟨⟨k + 1, HK.out, by go_num, F3⟩, rfl⟩)
          case measure => have := HK.out; simp [intOf]; omega
    · obtain rfl : k = n := by omega
      have hR := HG.out fun j h => hI.out.1 j h (by rw [HN.out]; exact h)
      subst hR
      go_wp2_with fail
      go_ret
      exact ⟨rfl, hI.out.2⟩

set_option maxRecDepth 20000 in
theorem formed_ok (v : Value) (C : Cf) (w : World) (h : CfR w v C) : Calls Tryd.prog 10 #[v] w fun e w' => e = .returned (.bool (formed C)) ∧ Below w.heap.size w w' := by
  obtain ⟨aL, cL, aS, cS, V, rfl, hcL, hcS, hLv, hV, hSc, hRl⟩ := h.ex
  have sz := h.sz
  have nm := h.nm
  have W1 := fun W => within_ok C.total 0 4096 W
  have W2 := fun W => within_ok C.period 0 1000 W
  have W3 := fun W => seats_ok C.perSeat C.most W
  have AL := alloc_below w (.cells #[.int .i64 C.total, .int .i64 C.period, .int .i64 C.perSeat, .int .i64 C.most, .slice aL C.levels.length cL, .slice aS C.schemas.length cS] 25)
  have NB := Blk.new w 25 #[.int .i64 C.total, .int .i64 C.period, .int .i64 C.perSeat, .int .i64 C.most, .slice aL C.levels.length cL, .slice aS C.schemas.length cS]
  have LV := levels_ok aL cL C.levels _ (hLv.carry AL) hcL sz.1 nm.1
  have SC : Hd (∀ W, Below w.heap.size w W → Calls Tryd.prog 23 #[.slice aS C.schemas.length cS] W fun e w' => e = .returned (.bool (schemasOk C.schemas)) ∧ Below W.heap.size W w') := ⟨fun W hW => schemas_ok aS cS C.schemas V W (hSc.carry hW) hV (fun k h1 h2 => (hRl k h1 h2).carry hW) hcS sz.2 nm.2⟩
  have e : formed C = (inI C.total 0 4096 && (inI C.period 0 1000 && (seatsOk C.perSeat C.most && (levelsOk C.levels && schemasOk C.schemas)))) := rfl
  rw [e]
  clear e h sz nm hLv hV hSc hRl hcL hcS
  generalize inI C.total 0 4096 = p1 at *
  generalize inI C.period 0 1000 = p2 at *
  generalize seatsOk C.perSeat C.most = p3 at *
  generalize levelsOk C.levels = p4 at *
  generalize schemasOk C.schemas = p5 at *
  generalize C.levels.length = nL at *
  generalize C.schemas.length = nS at *
  have AL0 : Hd _ := ⟨AL⟩
  go_enter Tryd.func10, Tryd.ntmps10
  go_upto_region 1 with fail
  generalize w.alloc _ = w1 at *
  have d0 := NB.cellv 0 rfl
  have d1 := NB.cellv 1 rfl
  have d2 := NB.cellv 2 rfl
  have d3 := NB.cellv 3 rfl
  have d4 := NB.cellv 4 rfl
  simp at d0 d1 d2 d3 d4
  cases p1 with
  | false =>
    go_wp2_with (go_at_call 20; refine (W1 _).mono ?_; rintro e w' ⟨rfl, hw⟩; obtain rfl := hw.symm)
    go_ret
    exact ⟨rfl, AL⟩
  | true =>
    go_wp2_with fail
    go_at_call 20
    refine (W1 _).mono ?_
    rintro e w2 ⟨rfl, hw⟩
    obtain rfl := hw.symm
    cases p2 with
    | false =>
      go_wp2_with (go_at_call 20; refine (W2 _).mono ?_; rintro e w' ⟨rfl, hw⟩; obtain rfl := hw.symm)
      go_ret
      exact ⟨rfl, AL⟩
    | true =>
      go_wp2_with fail
      go_at_call 20
      refine (W2 _).mono ?_
      rintro e w2 ⟨rfl, hw⟩
      obtain rfl := hw.symm
      cases p3 with
      | false =>
        go_wp2_with (go_at_call 21; refine (W3 _).mono ?_; rintro e w' ⟨rfl, hw⟩; obtain rfl := hw.symm)
        go_ret
        exact ⟨rfl, AL⟩
      | true =>
        go_wp2_with fail
        go_at_call 21
        refine (W3 _).mono ?_
        rintro e w2 ⟨rfl, hw⟩
        obtain rfl := hw.symm
        go_wp2_with fail
        go_at_call 22
        refine LV.mono ?_
        rintro e w3 ⟨rfl, b3⟩
        have B3 : Hd (Below w.heap.size w w3) := ⟨AL0.out.trans (b3.mono AL0.out.size)⟩
        have N3 := NB.kept (Kept.of_below b3 (fun _ => False)) id
        have d5 := N3.cellv 5 rfl
        simp at d5
        have SC3 := SC.out w3 B3.out
        clear LV SC N3 NB b3 AL AL0 d0 d1 d2 d3 d4
        cases p4 with
        | false =>
          go_wp2_with fail
          go_ret
          exact ⟨rfl, B3.out⟩
        | true =>
          go_wp2_with (go_at_call 23; refine SC3.mono ?_; rintro e w4 ⟨rfl, b4⟩)
          go_ret
          exact ⟨rfl, B3.out.trans (b4.mono B3.out.size)⟩
end Go.Proofs.YtfollcabppkihaaDoor

namespace Go.Proofs.YtfollcabppkihaaDoor
open Go.RowKit Go.Lib Go.Shelf


theorem line_ok (a : Option Addr) (c : Nat) (ws : List ByteArray) (w : World) (hr : RowL w a ws) (hc : ws.length ≤ c) (hn : ws.length ≤ 140737488355328) (hne : ws ≠ []) (hlen : (lineL ws).length ≤ 70000000) :
    Calls Tryd.prog 27 #[.slice a ws.length c] w fun e w' => e = .returned (.string (lnB ws)) ∧ Below w.heap.size w w' := by
  have J := sjoin_any [32] a c ws w hr hc hn hne (by unfold lineL at hlen; omega)
  have hs : (mk (join (ws.map (·.data.toList)) [32])).size ≤ 70000000 := by rw [mk_size]; exact hlen
  have HE : Hd (lnB ws = mk (join (ws.map (·.data.toList)) [32]) ++ ⟨#[10]⟩) := ⟨list_inj (by rw [cat_list, mk_list]; unfold lnB lineL; rw [mk_list])⟩
  generalize lnB ws = R at *
  generalize mk (join (ws.map (·.data.toList)) [32]) = x at *
  generalize ws.length = m at *
  clear hr hlen hne
  have ten : (⟨#[10]⟩ : ByteArray).size = 1 := rfl
  go_enter Tryd.func27, Tryd.ntmps27
  go_wp2_with (go_at_call 18; refine J.mono ?_; rintro e w' ⟨rfl, hb⟩)
  go_ret
  exact ⟨by rw [HE.out]; rfl, hb⟩

def powName : String := match Rows.printPartRow.laid with
  | _ :: _ :: x :: _ => x.1
  | _ => ""
def Tab (w : World) : Prop := TabIs Tryd.prog w powName .u64 pow10Tab
theorem Tab.stays {w w' : World} (h : Tab w) (hb : Below w.heap.size w w') : Tab w' := Go.Joins.tab_stays (g := 1) (by kernel_rfl) h hb (Nat.le_refl _)
theorem digits_ok (n : Int) (h0 : -9223372036854775808 ≤ n) (h1 : n ≤ 9223372036854775807) (w : World) (hT : Tab w) :
    Calls Tryd.prog 28 #[.int .i64 n] w fun e w' => e = .returned (.string (digB n)) ∧ Below w.heap.size w w' := by
  have I := Any.strconv_Itoa Tryd.laysItoa (max n 0) (by omega) (by omega) w hT
  have e : itoa (max n 0) = decDigits (max n 0).toNat := by unfold itoa; rw [if_neg (by omega)]
  rw [e] at I
  have I' : Calls Tryd.prog 49 #[.int .i64 (max n 0)] w fun e w' => e = .returned (.string (digB n)) ∧ Below w.heap.size w w' :=
    Calls.mono I fun e w' ⟨he, k, os, hw⟩ => ⟨he, by rw [hw]; exact Lib.below_grow _ w (Nat.le_refl _) k os⟩
  clear I hT
  go_enter Tryd.func28, Tryd.ntmps28
  go_wp2_with (go_at_call 49; go_loud (refine I'.mono ?_; rintro e w' ⟨rfl, hb⟩))
  go_ret
  exact ⟨rfl, hb⟩
theorem borrow_ok (n : Int) (h0 : -9223372036854775808 ≤ n) (h1 : n ≤ 9223372036854775807) (w : World) (hT : Tab w) :
    Calls Tryd.prog 29 #[.int .i64 n] w fun e w' => e = .returned (.string (borW n)) ∧ Below w.heap.size w w' := by
  have DG := digits_ok n h0 h1 w hT
  by_cases e : n = -1
  · subst e
    clear DG hT
    go_enter Tryd.func29, Tryd.ntmps29
    go_wp2_with fail
    go_ret
    exact ⟨rfl, Below.refl _ _⟩
  · have eb : borW n = digB n := by unfold borW; rw [if_neg e]
    rw [eb]
    have en : (n == -1) = false := by simpa using e
    clear hT e
    go_enter Tryd.func29, Tryd.ntmps29
    go_wp2_with (go_at_call 28; refine DG.mono ?_; rintro e w' ⟨rfl, hb⟩)
    go_ret
    exact ⟨rfl, hb⟩
end Go.Proofs.YtfollcabppkihaaDoor
