/-
  'Small' of the reference answers, whatever it is asked. Condition: the configuration lies in memory.
  'Same' of the reference at two configurations that are only read, where both are the same. Condition: they lie in memory.
  A configuration is read as it was printed: the walk of 'PrintBack'. Condition: the configuration lies in memory; the library's table of powers.
  Configurations that came in: how they lie in memory. Condition: they lie in memory.
  The table of powers that the row lists, as the library's theorem on strconv.Itoa asks it. No condition.
-/
import Derived.Test.YtfollcabppkihaaGreatDoorPO
import Derived.Test.YtfollcabppkihaaGreatDoorPrE
import Derived.BigQuiet
import Derived.Deep.RegionHeld
import Derived.WalkKit
import Derived.SliceStrings
import Derived.Deep.SlicePairs
import Derived.OpenShut
import Derived.ShutString
import Derived.ChangeMaps5
import Derived.Test.YtfollcabppkihaaGreatDoorPrG
import Derived.Lib.LaidU8
namespace Go.Proofs.YtfollcabppkihaaGreatDoor
open Go.RowKit

/-- A yes or a no. -/
structure IsB (e : Ending) : Prop where
  ex : ∃ b, e = .returned (.bool b)
/-- A configuration in the course of the look. -/
structure Sml (w wr : World) (A : Nat) (x0 x1 x2 x3 : Int) (aL : Option Addr) (cL : Nat) (aS : Option Addr) (cS : Nat) (L : List Lv) (S : List Sc) (V : List Value) : Prop where
  bel : Below w.heap.size w wr
  blk : Blk wr A 25 #[.int .i64 x0, .int .i64 x1, .int .i64 x2, .int .i64 x3, .slice aL L.length cL, .slice aS S.length cS]
  lv : LvR wr aL L
  sc : ScR wr aS S V
  rl : ∀ k (h : k < S.length) (h' : k < V.length), RlR wr V[k] S[k].rules
theorem Sml.grown {w wr w' : World} {A : Nat} {x0 x1 x2 x3 : Int} {aL : Option Addr} {cL : Nat} {aS : Option Addr} {cS : Nat} {L : List Lv} {S : List Sc} {V : List Value}
    (h : Sml w wr A x0 x1 x2 x3 aL cL aS cS L S V) (b : Below wr.heap.size wr w') : Sml w w' A x0 x1 x2 x3 aL cL aS cS L S V :=
  ⟨h.bel.trans (b.mono h.bel.size), h.blk.kept (Kept.of_below b (fun _ => False)) id, h.lv.carry b, h.sc.carry b, fun k h1 h2 => (h.rl k h1 h2).carry b⟩
/-- Five lists. -/
def Fiv (w : World) (g : Nat) : Prop := g < w.heap.size ∧ ∀ p, p < 5 → ∃ v T, w.cell? ⟨g, p, none⟩ = some v ∧ LsR w v T
theorem Fiv.grown {w w' : World} {g : Nat} (h : Fiv w g) (b : Below w.heap.size w w') : Fiv w' g :=
  ⟨Nat.lt_of_lt_of_le h.1 b.size, fun p hp => by
    obtain ⟨v, T, hc, hl⟩ := h.2 p hp
    exact ⟨v, T, (b.cell (p := ⟨g, p, none⟩) h.1).trans hc, hl.carry b⟩⟩
theorem Fiv.new {w : World} {v0 v1 v2 v3 v4 : Value} {r : Rl} (h : RuR w v0 v1 v2 v3 v4 r) : Fiv (w.alloc (.cells #[v0, v1, v2, v3, v4] 42)) w.heap.size := by
  have AL := alloc_below w (.cells #[v0, v1, v2, v3, v4] 42)
  have NB := Blk.new w 42 #[v0, v1, v2, v3, v4]
  obtain ⟨l0, l1, l2, l3, l4⟩ := h
  refine ⟨NB.lt, fun p hp => ?_⟩
  match p, hp with
  | 0, _ => exact ⟨v0, _, NB.cellv 0 rfl, l0.carry AL⟩
  | 1, _ => exact ⟨v1, _, NB.cellv 1 rfl, l1.carry AL⟩
  | 2, _ => exact ⟨v2, _, NB.cellv 2 rfl, l2.carry AL⟩
  | 3, _ => exact ⟨v3, _, NB.cellv 3 rfl, l3.carry AL⟩
  | 4, _ => exact ⟨v4, _, NB.cellv 4 rfl, l4.carry AL⟩
/-- What the look at a schema keeps. -/
structure Smr (w wr : World) (A : Nat) (x0 x1 x2 x3 : Int) (aL : Option Addr) (cL : Nat) (aS : Option Addr) (cS : Nat) (L : List Lv) (S : List Sc) (V : List Value) (g : Nat) (y0 y1 : ByteArray) (y2 y3 : Int) (vr : Value) (rs : List Rl) : Prop where
  sm : Sml w wr A x0 x1 x2 x3 aL cL aS cS L S V
  bl : Blk wr g 41 #[.string y0, .string y1, .int .i64 y2, .int .i64 y3, vr]
  ru : RlR wr vr rs
theorem Smr.grown {w wr w' : World} {A : Nat} {x0 x1 x2 x3 : Int} {aL : Option Addr} {cL : Nat} {aS : Option Addr} {cS : Nat} {L : List Lv} {S : List Sc} {V : List Value} {g : Nat} {y0 y1 : ByteArray} {y2 y3 : Int} {vr : Value} {rs : List Rl}
    (h : Smr w wr A x0 x1 x2 x3 aL cL aS cS L S V g y0 y1 y2 y3 vr rs) (b : Below wr.heap.size wr w') : Smr w w' A x0 x1 x2 x3 aL cL aS cS L S V g y0 y1 y2 y3 vr rs :=
  ⟨h.sm.grown b, h.bl.kept (Kept.of_below b (fun _ => False)) id, h.ru.carry b⟩

set_option maxRecDepth 20000 in
set_option maxHeartbeats 4000000 in
theorem small_any (v : Value) (C : Cf) (w : World) (h : CfR w v C) :
    Calls Tryz.prog 6 #[v] w fun e w' => IsB e ∧ Below w.heap.size w w' := by
  obtain ⟨aL, cL, aS, cS, V, rfl, capL, capS, hL, hV, hS, hR⟩ := h.ex
  have hnm := h.nm
  obtain ⟨nl9, ns9⟩ := h.sz
  clear h
  obtain ⟨x0, x1, x2, x3, L, S⟩ := C
  simp only at capL capS hL hV hS hR hnm nl9 ns9 ⊢
  have AL := alloc_below w (.cells #[.int .i64 x0, .int .i64 x1, .int .i64 x2, .int .i64 x3, .slice aL L.length cL, .slice aS S.length cS] 25)
  have I0 : Hd (Sml w (w.alloc (.cells #[.int .i64 x0, .int .i64 x1, .int .i64 x2, .int .i64 x3, .slice aL L.length cL, .slice aS S.length cS] 25)) w.heap.size x0 x1 x2 x3 aL cL aS cS L S V) := ⟨AL, Blk.new w 25 _, hL.carry AL, hS.carry AL, fun k h1 h2 => (hR k h1 h2).carry AL⟩
  have HM : Hd _ := ⟨And.intro hV hnm⟩
  obtain ⟨n, hn⟩ : ∃ n, n = L.length := ⟨_, rfl⟩
  obtain ⟨m, hm⟩ : ∃ m, m = S.length := ⟨_, rfl⟩
  have HN : Hd (n = L.length ∧ m = S.length) := ⟨hn, hm⟩
  have B0 : Hd (Below w.heap.size w (w.alloc (.cells #[.int .i64 x0, .int .i64 x1, .int .i64 x2, .int .i64 x3, .slice aL n cL, .slice aS m cS] 25))) := ⟨alloc_below w _⟩
  have I1 : Hd (Sml w (w.alloc (.cells #[.int .i64 x0, .int .i64 x1, .int .i64 x2, .int .i64 x3, .slice aL n cL, .slice aS m cS] 25)) w.heap.size x0 x1 x2 x3 aL cL aS cS L S V) := ⟨by rw [hn, hm]; exact I0.out⟩
  rw [← hn, ← hm]
  rw [← hn] at capL nl9
  rw [← hm] at capS ns9
  have N0 := Blk.new w 25 #[.int .i64 x0, .int .i64 x1, .int .i64 x2, .int .i64 x3, .slice aL n cL, .slice aS m cS]
  clear AL I0 hL hS hR hV hnm hn hm
  by_cases h40 : 40 < n
  · clear I1 N0
    go_enter Tryz.func6, Tryz.ntmps6
    go_wp2_with fail
    go_ret
    exact ⟨⟨⟨_, rfl⟩⟩, B0.out⟩
  by_cases h80 : 80 < m
  · clear I1 N0
    go_enter Tryz.func6, Tryz.ntmps6
    go_wp2_with fail
    go_ret
    exact ⟨⟨⟨_, rfl⟩⟩, B0.out⟩
  clear B0
  have n40 : n ≤ 40 := by omega
  have m80 : m ≤ 80 := by omega
  clear h40 h80 nl9 ns9
  go_enter Tryz.func6, Tryz.ntmps6
  go_wp2_with fail
  clear N0
  generalize w.alloc _ = w0 at *
  obtain ⟨A, hA⟩ : ∃ A, A = w.heap.size := ⟨_, rfl⟩
  have I2 : Hd (Sml w w0 A x0 x1 x2 x3 aL cL aS cS L S V) := ⟨by rw [hA]; exact I1.out⟩
  rw [← hA]
  clear hA I1
  go_loopw [4] (fun i wr => ∃ k : Nat, k ≤ n ∧ i = .int .i64 k ∧ Hd (Sml w wr A x0 x1 x2 x3 aL cL aS cS L S V)) (fun i _ => n - (intOf i).toNat)
  case atStart => exact ⟨0, Nat.zero_le _, rfl, I2⟩
  case round =>
    obtain ⟨k, hk, rfl, hI⟩ := hrel
    clear I2
    have e1 : wr.cell? ⟨A, 4, none⟩ = some (.slice aL n cL) := by rw [HN.out.1]; exact hI.out.blk.cellv 4 rfl
    by_cases hlt : k < n
    · have hkL : k < L.length := by rw [← HN.out.1]; exact hlt
      obtain ⟨b, off, rfl, hb, hc⟩ := hI.out.lv (by omega)
      have y0 : wr.cell? ⟨b, off + k * 10, none⟩ = some (.string L[k].name) := hc k hkL 0 (by decide)
      have s0 : L[k].name.size ≤ 9223372036854775807 := HM.out.2.1 L[k] (List.getElem_mem hkL)
      have HK : Hd (k < n) := ⟨hlt⟩
      clear hc
      generalize L[k].name = x at *
      clear hkL
      by_cases h1 : 1000 < x.size
      · go_wp2_with fail
        go_ret
        exact ⟨⟨⟨_, rfl⟩⟩, hI.out.bel⟩
      · go_wp2_with fail
        go_roundw
        case rel => exact ⟨k + 1, HK.out, by go_num, hI⟩
        case measure => have := HK.out; simp [intOf]; omega
    · obtain rfl : k = n := by omega
      obtain ⟨wo, rfl⟩ : ∃ wo : World, wo = wr := ⟨_, rfl⟩
      go_wp2_with fail
      clear e1
      go_loopw [3, 5] (fun q i wr => ∃ (j : Nat) (z : Int), j ≤ m ∧ q = .int .i64 z ∧ i = .int .i64 j ∧ Hd (Sml w wr A x0 x1 x2 x3 aL cL aS cS L S V)) (fun _ i _ => m - (intOf i).toNat)
      case atStart => exact ⟨0, 0, Nat.zero_le _, rfl, rfl, hI⟩
      case round =>
        obtain ⟨j, z, hj, rfl, rfl, hU⟩ := hrel
        clear hI
        have f1 : wr.cell? ⟨A, 5, none⟩ = some (.slice aS m cS) := by rw [HN.out.2]; exact hU.out.blk.cellv 5 rfl
        by_cases hlt : j < m
        · have hjS : j < S.length := by rw [← HN.out.2]; exact hlt
          have hjV : j < V.length := by rw [HM.out.1]; exact hjS
          obtain ⟨b, off, rfl, hb, hc⟩ := hU.out.sc (by omega)
          have y0 : wr.cell? ⟨b, off + j * 5, none⟩ = some (.string S[j].name) := hc j hjS hjV 0 (by decide)
          have y1 : wr.cell? ⟨b, off + j * 5 + 1, none⟩ = some (.string S[j].level) := hc j hjS hjV 1 (by decide)
          have y2 : wr.cell? ⟨b, off + j * 5 + 2, none⟩ = some (.int .i64 S[j].rank) := hc j hjS hjV 2 (by decide)
          have y3 : wr.cell? ⟨b, off + j * 5 + 3, none⟩ = some (.int .i64 S[j].way) := hc j hjS hjV 3 (by decide)
          have y4 : wr.cell? ⟨b, off + j * 5 + 4, none⟩ = some V[j] := hc j hjS hjV 4 (by decide)
          have HRl := hU.out.rl j hjS hjV
          obtain ⟨s0, s1⟩ : S[j].name.size ≤ 9223372036854775807 ∧ S[j].level.size ≤ 9223372036854775807 := HM.out.2.2 S[j] (List.getElem_mem hjS)
          have HJ : Hd (j < m) := ⟨hlt⟩
          clear hc
          generalize S[j] = s at *
          generalize V[j] = vr at *
          clear hjS hjV
          obtain ⟨q0, q1, q2, q3, rs⟩ := s
          simp only at y0 y1 y2 y3 HRl s0 s1
          obtain ⟨ra, rc, rfl, rn9, -⟩ := id HRl
          obtain ⟨rn, hrn⟩ : ∃ rn, rn = rs.length := ⟨_, rfl⟩
          have AL := alloc_below wr (.cells #[.string q0, .string q1, .int .i64 q2, .int .i64 q3, .slice ra rs.length rc] 41)
          have M0 : Hd (Smr w (wr.alloc (.cells #[.string q0, .string q1, .int .i64 q2, .int .i64 q3, .slice ra rs.length rc] 41)) A x0 x1 x2 x3 aL cL (some ⟨b, off, none⟩) cS L S V wr.heap.size q0 q1 q2 q3 (.slice ra rs.length rc) rs) := ⟨hU.out.grown AL, Blk.new wr 41 _, HRl.carry AL⟩
          rw [← hrn] at y4 rn9 M0
          have HRN : Hd (rn = rs.length) := ⟨hrn⟩
          clear AL HRl hU hrn
          go_upto_region 13 with fail
          generalize wr.alloc _ = w1 at *
          generalize wr.heap.size = g at *
          clear y0 y1 y2 y3 y4
          have d0 : w1.cell? ⟨g, 0, none⟩ = _ := M0.out.bl.cellv 0 rfl
          have d1 : w1.cell? ⟨g, 1, none⟩ = _ := M0.out.bl.cellv 1 rfl
          have d4 : w1.cell? ⟨g, 4, none⟩ = _ := M0.out.bl.cellv 4 rfl
          by_cases h40 : 40 < rn
          · go_wp2_with fail
            go_ret
            exact ⟨⟨⟨_, rfl⟩⟩, M0.out.sm.bel⟩
          by_cases h1 : 1000 < q0.size
          · go_wp2_with fail
            go_ret
            exact ⟨⟨⟨_, rfl⟩⟩, M0.out.sm.bel⟩
          by_cases h2 : 1000 < q1.size
          · go_wp2_with fail
            go_ret
            exact ⟨⟨⟨_, rfl⟩⟩, M0.out.sm.bel⟩
          have rn40 : rn ≤ 40 := by omega
          go_wp2_with fail
          clear d0 d1 d4 rn9 h40 h1 h2 s0 s1 f1
          go_loopw [3, 7] (fun q i wr => ∃ (k : Nat) (z : Int), k ≤ rn ∧ q = .int .i64 z ∧ i = .int .i64 k ∧ Hd (Smr w wr A x0 x1 x2 x3 aL cL (some ⟨b, off, none⟩) cS L S V g q0 q1 q2 q3 (.slice ra rn rc) rs)) (fun _ i _ => rn - (intOf i).toNat)
          case atStart => exact ⟨0, z, Nat.zero_le _, rfl, rfl, M0⟩
          case round =>
            obtain ⟨k, z, hk, rfl, rfl, hM⟩ := hrel
            clear M0
            have d4 : wr.cell? ⟨g, 4, none⟩ = _ := hM.out.bl.cellv 4 rfl
            by_cases hlt : k < rn
            · have hkr : k < rs.length := by rw [← HRN.out]; exact hlt
              obtain ⟨a', c', e', -, hrow⟩ := hM.out.ru
              injection e' with w1 w2 w3
              subst w1 w3
              clear w2
              obtain ⟨b2, o2, rfl, hb2, hcs⟩ := hrow (by omega)
              obtain ⟨v0, v1, v2, v3, v4, ⟨z0, z1, z2, z3, z4⟩, hru⟩ := hcs k hkr
              have HK : Hd (k < rn) := ⟨hlt⟩
              obtain ⟨⟨a0, p0, e0, -⟩, ⟨a1, p1, e1, -⟩, ⟨a2, p2, e2, -⟩, ⟨a3, p3, e3, -⟩, ⟨a4, p4, e4, -⟩⟩ := id hru
              have AL := alloc_below wr (.cells #[v0, v1, v2, v3, v4] 44)
              have NB := Blk.new wr 44 #[v0, v1, v2, v3, v4]
              have hM1 : Hd _ := ⟨hM.out.grown AL⟩
              have RU1 := hru.carry AL
              clear hcs hrow hru AL hM
              generalize rs[k] = r at *
              clear hkr
              generalize hn0 : r.users.length = m0 at e0
              generalize hn1 : r.groups.length = m1 at e1
              generalize hn2 : r.verbs.length = m2 at e2
              generalize hn3 : r.resources.length = m3 at e3
              generalize hn4 : r.spaces.length = m4 at e4
              subst e0 e1 e2 e3 e4
              clear hn0 hn1 hn2 hn3 hn4
              go_upto_region 19 with fail
              generalize wr.alloc _ = w2 at *
              generalize wr.heap.size = g2 at *
              clear z0 z1 z2 z3 z4 d4
              have AL := alloc_below w2 (.cells #[.slice a0 m0 p0, .slice a1 m1 p1, .slice a2 m2 p2, .slice a3 m3 p3, .slice a4 m4 p4] 42)
              have hM2 : Hd _ := ⟨hM1.out.grown AL⟩
              have F2 : Hd _ := ⟨Fiv.new RU1⟩
              clear RU1 AL hM1
              have d0 : w2.cell? ⟨g2, 0, none⟩ = _ := NB.cellv 0 rfl
              have d1 : w2.cell? ⟨g2, 1, none⟩ = _ := NB.cellv 1 rfl
              have d2 : w2.cell? ⟨g2, 2, none⟩ = _ := NB.cellv 2 rfl
              have d3 : w2.cell? ⟨g2, 3, none⟩ = _ := NB.cellv 3 rfl
              have d4 : w2.cell? ⟨g2, 4, none⟩ = _ := NB.cellv 4 rfl
              clear NB
              go_wp2_with fail
              clear d0 d1 d2 d3 d4
              generalize w2.alloc _ = w3 at *
              generalize w2.heap.size = g3 at *
              go_loopw [3, 89] (fun q i wr => ∃ (p : Nat) (z : Int), p ≤ 5 ∧ q = .int .i64 z ∧ i = .int .i64 p ∧ Hd (Smr w wr A x0 x1 x2 x3 aL cL (some ⟨b, off, none⟩) cS L S V g q0 q1 q2 q3 (.slice (some ⟨b2, o2, none⟩) rn rc) rs ∧ Fiv wr g3)) (fun _ i _ => 5 - (intOf i).toNat)
              case atStart => exact ⟨0, z, Nat.zero_le _, rfl, rfl, ⟨hM2.out, F2.out⟩⟩
              case round =>
                obtain ⟨p, z, hp, rfl, rfl, hF⟩ := hrel
                clear hM2 F2
                by_cases hlt : p < 5
                · obtain ⟨vv, T, c0, ta, tc, rfl, trow, tcap, t9, tsz⟩ := hF.out.2.2 p hlt
                  have HP : Hd (p < 5) := ⟨hlt⟩
                  have HT : Hd (RowL wr ta T ∧ ∀ x ∈ T, x.size ≤ 9223372036854775807) := ⟨trow, tsz⟩
                  obtain ⟨tn, htn⟩ : ∃ tn, tn = T.length := ⟨_, rfl⟩
                  rw [← htn] at c0 tcap t9
                  have HTN : Hd (tn = T.length) := ⟨htn⟩
                  clear trow tsz htn
                  by_cases h40 : 40 < tn
                  · go_wp2_with fail
                    go_ret
                    exact ⟨⟨⟨_, rfl⟩⟩, hF.out.1.sm.bel⟩
                  have tn40 : tn ≤ 40 := by omega
                  obtain ⟨wo, rfl⟩ : ∃ wo : World, wo = wr := ⟨_, rfl⟩
                  go_wp2_with fail
                  clear c0 h40 t9
                  go_loopw [3, 11] (fun q i wr => ∃ (t : Nat) (z : Int), t ≤ tn ∧ q = .int .i64 z ∧ i = .int .i64 t ∧ Hd (Below wo.heap.size wo wr)) (fun _ i _ => tn - (intOf i).toNat)
                  case atStart => exact ⟨0, z, Nat.zero_le _, rfl, rfl, ⟨Below.refl _ _⟩⟩
                  case round =>
                    obtain ⟨t, z, ht, rfl, rfl, hB⟩ := hrel
                    by_cases hlt : t < tn
                    · have htT : t < T.length := by rw [← HTN.out]; exact hlt
                      obtain ⟨b3, o3, rfl, hb3, hc3⟩ := (HT.out.1.carry hB.out) (by omega)
                      have c1 := hc3 t htT
                      rw [gt_eq htT] at c1
                      have s1 := HT.out.2 T[t] (List.getElem_mem htT)
                      have HTT : Hd (t < tn) := ⟨hlt⟩
                      clear hc3
                      generalize T[t] = x at *
                      clear htT
                      by_cases h1 : 1000 < x.size
                      · go_wp2_with fail
                        go_ret
                        exact ⟨⟨⟨_, rfl⟩⟩, (hF.out.1.sm.grown hB.out).bel⟩
                      · go_wp2_with fail
                        go_roundw
                        case rel => exact ⟨t + 1, _, HTT.out, rfl, by go_num, hB⟩
                        case measure => have := HTT.out; simp [intOf]; omega
                    · obtain rfl : t = tn := by omega
                      go_wp2_with fail
                      go_roundw
                      case rel => exact ⟨p + 1, _, HP.out, rfl, by go_num, ⟨hF.out.1.grown hB.out, hF.out.2.grown hB.out⟩⟩
                      case measure => have := HP.out; simp [intOf]; omega
                · obtain rfl : p = 5 := by omega
                  go_wp2_with fail
                  go_roundw
                  case rel => exact ⟨k + 1, _, HK.out, rfl, by go_num, ⟨hF.out.1⟩⟩
                  case measure => have := HK.out; simp [intOf]; omega
            · obtain rfl : k = rn := by omega
              go_wp2_with fail
              go_roundw
              case rel => exact ⟨j + 1, _, HJ.out, rfl, by go_num, ⟨hM.out.sm⟩⟩
              case measure => have := HJ.out; simp [intOf]; omega
        · obtain rfl : j = m := by omega
          have R : Hd (Below w.heap.size w wr) := ⟨hU.out.bel⟩
          clear hU
          go_wp2_with fail
          go_ret
          exact ⟨⟨⟨_, rfl⟩⟩, R.out⟩
end Go.Proofs.YtfollcabppkihaaGreatDoor

namespace Go.Proofs.YtfollcabppkihaaGreatDoor
open Go.RowKit

theorem sameR_q (a b : Option Addr) (c1 c2 : Nat) (L : List ByteArray) (w : World) (h1 : RowL w a L) (h2 : RowL w b L) (hn : L.length ≤ 9223372036854775807) :
    Calls Tryz.prog 44 #[.slice a L.length c1, .slice b L.length c2] w fun e w' => e = .returned (.bool true) ∧ ∃ m, w' = w.drewN m := by
  obtain ⟨n, hL⟩ : ∃ n, L.length = n := ⟨_, rfl⟩
  rw [hL] at hn ⊢
  have g1 : 0 < n → ∃ b off, a = some ⟨b, off, none⟩ ∧ b < w.heap.size ∧ ∀ k, k < n → w.cell? ⟨b, off + k, none⟩ = some (.string (gt L k)) := by rw [← hL]; exact h1
  have g2 : 0 < n → ∃ c off, b = some ⟨c, off, none⟩ ∧ c < w.heap.size ∧ ∀ k, k < n → w.cell? ⟨c, off + k, none⟩ = some (.string (gt L k)) := by rw [← hL]; exact h2
  clear h1 h2 hL
  go_enter Tryz.func44, Tryz.ntmps44
  go_wp2
  go_loopw [5] (fun i wr => ∃ k m : Nat, k ≤ n ∧ i = .int .i64 k ∧ wr = w.drewN m) (fun i _ => n - (intOf i).toNat)
  case atStart => exact ⟨0, 0, Nat.zero_le _, rfl, rfl⟩
  case round =>
    obtain ⟨k, m, hk, rfl, rfl⟩ := hrel
    by_cases hlt : k < n
    · obtain ⟨b1, o1, rfl, hb1, hc1⟩ := g1 (by omega)
      obtain ⟨b2, o2, rfl, hb2, hc2⟩ := g2 (by omega)
      have d1 := hc1 k hlt
      have d2 := hc2 k hlt
      have HK : Hd (k < n) := ⟨hlt⟩
      clear g1 g2 hc1 hc2
      generalize gt L k = x at *
      go_wp2
      go_quiet (fail)
      go_wp2
      go_roundw
      case rel => exact ⟨k + 1, _, HK.out, by go_num, rfl⟩
      case measure => have := HK.out; simp [intOf]; omega
    · obtain rfl : k = n := by omega
      clear g1 g2
      go_wp2
      go_ret
      exact ⟨rfl, m, rfl⟩

theorem lsr_q {w : World} {v v' : Value} {L : List ByteArray} (h : LsR w v L) (h' : LsR w v' L) (m : Nat) :
    Calls Tryz.prog 44 #[v, v'] (w.drewN m) fun e w' => e = .returned (.bool true) ∧ ∃ k, w' = (w.drewN m).drewN k := by
  obtain ⟨a, c, rfl, hr, -, hl, -⟩ := h
  obtain ⟨a', c', rfl, hr', -, -, -⟩ := h'
  exact sameR_q a a' c c' L (w.drewN m) (fun hn => hr hn) (fun hn => hr' hn) hl
theorem lsr_q2 {w : World} {v v' : Value} {L : List ByteArray} (h : LsR w v L) (h' : LsR w v' L) (m q : Nat) :
    Calls Tryz.prog 44 #[v, v'] ((w.drewN m).drewN q) fun e w' => e = .returned (.bool true) ∧ ∃ k, w' = ((w.drewN m).drewN q).drewN k := by
  rw [World.drewN_drewN]
  exact lsr_q h h' _

set_option maxRecDepth 20000 in
set_option maxHeartbeats 4000000 in
theorem samerR {w : World} {v v' : Value} {rs : List Rl} (h : RlR w v rs) (h' : RlR w v' rs) :
    Calls Tryz.prog 20 #[v, v'] w fun e w' => e = .returned (.bool true) ∧ ∃ m, w' = w.drewN m := by
  obtain ⟨a, c, rfl, hm, R⟩ := h
  obtain ⟨a', c', rfl, -, R'⟩ := h'
  obtain ⟨n, hn⟩ : ∃ n, n = rs.length := ⟨_, rfl⟩
  rw [← hn] at hm ⊢
  have hn9 : n ≤ 9223372036854775807 := hm
  have HN : Hd (n = rs.length) := ⟨hn⟩
  have HR : Hd _ := ⟨R⟩
  have HR' : Hd _ := ⟨R'⟩
  clear R R' hn hm
  go_enter Tryz.func20, Tryz.ntmps20
  go_wp2_with fail
  go_loopw [5] (fun i wr => ∃ k m : Nat, k ≤ n ∧ i = .int .i64 k ∧ wr = w.drewN m) (fun i _ => n - (intOf i).toNat)
  case atStart => exact ⟨0, 0, Nat.zero_le _, rfl, rfl⟩
  case round =>
    obtain ⟨k, m, hk, rfl, rfl⟩ := hrel
    by_cases hlt : k < n
    · have hkr : k < rs.length := by rw [← HN.out]; exact hlt
      obtain ⟨g, o1, rfl, hg, C⟩ := HR.out (by omega)
      obtain ⟨g', o2, rfl, hg', C'⟩ := HR'.out (by omega)
      obtain ⟨v0, v1, v2, v3, v4, ⟨x0, x1, x2, x3, x4⟩, l0, l1, l2, l3, l4⟩ := C k hkr
      obtain ⟨u0, u1, u2, u3, u4, ⟨y0, y1, y2, y3, y4⟩, m0, m1, m2, m3, m4⟩ := C' k hkr
      obtain ⟨W, hW⟩ : ∃ W, W = w.drewN m := ⟨_, rfl⟩
      replace x0 : W.cell? ⟨g, o1 + k * 5, none⟩ = some v0 := by rw [hW]; exact x0
      replace x1 : W.cell? ⟨g, o1 + k * 5 + 1, none⟩ = some v1 := by rw [hW]; exact x1
      replace x2 : W.cell? ⟨g, o1 + k * 5 + 2, none⟩ = some v2 := by rw [hW]; exact x2
      replace x3 : W.cell? ⟨g, o1 + k * 5 + 3, none⟩ = some v3 := by rw [hW]; exact x3
      replace x4 : W.cell? ⟨g, o1 + k * 5 + 4, none⟩ = some v4 := by rw [hW]; exact x4
      replace y0 : W.cell? ⟨g', o2 + k * 5, none⟩ = some u0 := by rw [hW]; exact y0
      replace y1 : W.cell? ⟨g', o2 + k * 5 + 1, none⟩ = some u1 := by rw [hW]; exact y1
      replace y2 : W.cell? ⟨g', o2 + k * 5 + 2, none⟩ = some u2 := by rw [hW]; exact y2
      replace y3 : W.cell? ⟨g', o2 + k * 5 + 3, none⟩ = some u3 := by rw [hW]; exact y3
      replace y4 : W.cell? ⟨g', o2 + k * 5 + 4, none⟩ = some u4 := by rw [hW]; exact y4
      have S0 : ∀ q, Calls Tryz.prog 44 #[v0, u0] (W.drewN q) fun e w' => e = .returned (.bool true) ∧ ∃ k, w' = (W.drewN q).drewN k := by rw [hW]; exact lsr_q2 l0 m0 m
      have S1 : ∀ q, Calls Tryz.prog 44 #[v1, u1] (W.drewN q) fun e w' => e = .returned (.bool true) ∧ ∃ k, w' = (W.drewN q).drewN k := by rw [hW]; exact lsr_q2 l1 m1 m
      have S2 : ∀ q, Calls Tryz.prog 44 #[v2, u2] (W.drewN q) fun e w' => e = .returned (.bool true) ∧ ∃ k, w' = (W.drewN q).drewN k := by rw [hW]; exact lsr_q2 l2 m2 m
      have S3 : ∀ q, Calls Tryz.prog 44 #[v3, u3] (W.drewN q) fun e w' => e = .returned (.bool true) ∧ ∃ k, w' = (W.drewN q).drewN k := by rw [hW]; exact lsr_q2 l3 m3 m
      have S4 : ∀ q, Calls Tryz.prog 44 #[v4, u4] (W.drewN q) fun e w' => e = .returned (.bool true) ∧ ∃ k, w' = (W.drewN q).drewN k := by rw [hW]; exact lsr_q2 l4 m4 m
      have HK : Hd (k < n) := ⟨hlt⟩
      have HT : Hd _ := ⟨And.intro S0 (And.intro S1 (And.intro S2 (And.intro S3 S4)))⟩
      have HW : Hd (W = w.drewN m) := ⟨hW⟩
      rw [← hW]
      clear C C' l0 l1 l2 l3 l4 m0 m1 m2 m3 m4 hkr HR HR' S0 S1 S2 S3 S4 hW
      go_wp2_with fail
      go_quiet (first
        | (go_at_call 44; with_reducible exact Calls.quiet_of (HT.out.1 _))
        | (go_at_call 44; with_reducible exact Calls.quiet_of (HT.out.2.1 _))
        | (go_at_call 44; with_reducible exact Calls.quiet_of (HT.out.2.2.1 _))
        | (go_at_call 44; with_reducible exact Calls.quiet_of (HT.out.2.2.2.1 _))
        | (go_at_call 44; with_reducible exact Calls.quiet_of (HT.out.2.2.2.2 _)))
      go_wp2
      go_roundw
      case rel => exact ⟨k + 1, _, HK.out, by go_num, by rw [HW.out, World.drewN_drewN]⟩
      case measure => have := HK.out; simp [intOf]; omega
    · obtain rfl : k = n := by omega
      clear HR HR'
      go_wp2
      go_ret
      exact ⟨rfl, m, rfl⟩

/-- The two configurations in the course of the comparison. -/
structure TwoR (w wr : World) (A1 A2 : Nat) (x0 x1 x2 x3 : Int) (a1 a2 s1 s2 : Option Addr) (c1 c2 d1 d2 : Nat) (L : List Lv) (S : List Sc) (V1 V2 : List Value) : Prop where
  bel : Below w.heap.size w wr
  b1 : Blk wr A1 25 #[.int .i64 x0, .int .i64 x1, .int .i64 x2, .int .i64 x3, .slice a1 L.length c1, .slice s1 S.length d1]
  b2 : Blk wr A2 25 #[.int .i64 x0, .int .i64 x1, .int .i64 x2, .int .i64 x3, .slice a2 L.length c2, .slice s2 S.length d2]
  l1 : LvR wr a1 L
  l2 : LvR wr a2 L
  o1 : ScR wr s1 S V1
  o2 : ScR wr s2 S V2
  r1 : ∀ k (h : k < S.length) (h' : k < V1.length), RlR wr V1[k] S[k].rules
  r2 : ∀ k (h : k < S.length) (h' : k < V2.length), RlR wr V2[k] S[k].rules
theorem TwoR.grown {w wr w' : World} {A1 A2 : Nat} {x0 x1 x2 x3 : Int} {a1 a2 s1 s2 : Option Addr} {c1 c2 d1 d2 : Nat} {L : List Lv} {S : List Sc} {V1 V2 : List Value} (h : TwoR w wr A1 A2 x0 x1 x2 x3 a1 a2 s1 s2 c1 c2 d1 d2 L S V1 V2) (b : Below wr.heap.size wr w') : TwoR w w' A1 A2 x0 x1 x2 x3 a1 a2 s1 s2 c1 c2 d1 d2 L S V1 V2 := by
  have k : Kept (fun _ => False) wr w' := Kept.of_below b _
  exact ⟨h.bel.trans (b.mono h.bel.size), h.b1.kept k id, h.b2.kept k id, h.l1.carry b, h.l2.carry b, h.o1.carry b, h.o2.carry b, fun k h1 h2 => (h.r1 k h1 h2).carry b, fun k h1 h2 => (h.r2 k h1 h2).carry b⟩

set_option maxRecDepth 20000 in
set_option maxHeartbeats 8000000 in
theorem same_cfr {w : World} {v v' : Value} {C : Cf} (h : CfR w v C) (h' : CfR w v' C) :
    Calls Tryz.prog 9 #[v, v'] w fun e w' => e = .returned (.bool true) ∧ Below w.heap.size w w' := by
  obtain ⟨nl, ns⟩ := h.sz
  obtain ⟨a1, c1, s1, d1, V1, rfl, -, -, hL, hV1, hS, hR⟩ := h.ex
  obtain ⟨a2, c2, s2, d2, V2, rfl, -, -, hL', hV2, hS', hR'⟩ := h'.ex
  clear h h'
  obtain ⟨x0, x1, x2, x3, L, S⟩ := C
  simp only at hL hL' hS hS' hR hR' hV1 hV2 nl ns ⊢
  have HV : Hd (V1.length = S.length ∧ V2.length = S.length) := ⟨hV1, hV2⟩
  obtain ⟨w0, hw0⟩ : ∃ w0, w0 = (w.alloc (.cells #[.int .i64 x0, .int .i64 x1, .int .i64 x2, .int .i64 x3, .slice a1 L.length c1, .slice s1 S.length d1] 25)).alloc (.cells #[.int .i64 x0, .int .i64 x1, .int .i64 x2, .int .i64 x3, .slice a2 L.length c2, .slice s2 S.length d2] 25) := ⟨_, rfl⟩
  have T0 : TwoR w w0 w.heap.size (w.heap.size + 1) x0 x1 x2 x3 a1 a2 s1 s2 c1 c2 d1 d2 L S V1 V2 := by
    have b0 : Below w.heap.size w w0 := by rw [hw0]; exact ((Below.refl _ _).alloc (Nat.le_refl _) _).alloc (by simp) _
    refine ⟨b0, ?_, ?_, hL.carry b0, hL'.carry b0, hS.carry b0, hS'.carry b0, fun k h1 h2 => (hR k h1 h2).carry b0, fun k h1 h2 => (hR' k h1 h2).carry b0⟩
    · rw [hw0]; exact (Blk.new w 25 _).kept (Kept.of_below ((Below.refl _ _).alloc (Nat.le_refl _) _) (fun _ => False)) id
    · have := Blk.new (w.alloc (.cells #[.int .i64 x0, .int .i64 x1, .int .i64 x2, .int .i64 x3, .slice a1 L.length c1, .slice s1 S.length d1] 25)) 25 #[.int .i64 x0, .int .i64 x1, .int .i64 x2, .int .i64 x3, .slice a2 L.length c2, .slice s2 S.length d2]
      rw [hw0]; simpa using this
  have HT : Hd _ := ⟨T0⟩
  obtain ⟨n, hn⟩ : ∃ n, n = L.length := ⟨_, rfl⟩
  obtain ⟨m, hm⟩ : ∃ m, m = S.length := ⟨_, rfl⟩
  rw [← hn] at nl
  rw [← hm] at ns
  have HN : Hd (n = L.length ∧ m = S.length) := ⟨hn, hm⟩
  rw [← hn, ← hm]
  rw [← hn, ← hm] at hw0
  clear T0 hL hL' hS hS' hR hR' hV1 hV2 hn hm
  go_enter Tryz.func9, Tryz.ntmps9
  go_wp2_with fail
  rw [← hw0]
  clear hw0
  generalize w.heap.size + 1 = A2 at *
  obtain ⟨A1, hA1⟩ : ∃ A1, A1 = w.heap.size := ⟨_, rfl⟩
  have HT' : Hd (TwoR w w0 A1 A2 x0 x1 x2 x3 a1 a2 s1 s2 c1 c2 d1 d2 L S V1 V2) := ⟨by rw [hA1]; exact HT.out⟩
  rw [← hA1]
  clear HT hA1
  go_loopw [5] (fun i wr => ∃ k : Nat, k ≤ n ∧ i = .int .i64 k ∧ Hd (TwoR w wr A1 A2 x0 x1 x2 x3 a1 a2 s1 s2 c1 c2 d1 d2 L S V1 V2)) (fun i _ => n - (intOf i).toNat)
  case atStart => exact ⟨0, Nat.zero_le _, rfl, HT'⟩
  case round =>
    obtain ⟨k, hk, rfl, hT⟩ := hrel
    clear HT'
    have e1 : wr.cell? ⟨A1, 4, none⟩ = some (.slice a1 n c1) := by rw [HN.out.1]; exact hT.out.b1.cellv 4 rfl
    have e2 : wr.cell? ⟨A2, 4, none⟩ = some (.slice a2 n c2) := by rw [HN.out.1]; exact hT.out.b2.cellv 4 rfl
    by_cases hlt : k < n
    · have hkL : k < L.length := by rw [← HN.out.1]; exact hlt
      obtain ⟨g1, f1, rfl, hg1, C1⟩ := hT.out.l1 (by omega)
      obtain ⟨g2, f2, rfl, hg2, C2⟩ := hT.out.l2 (by omega)
      have x0' : wr.cell? ⟨g1, f1 + k * 10, none⟩ = some (.string L[k].name) := C1 k hkL 0 (by decide)
      have x1' : wr.cell? ⟨g1, f1 + k * 10 + 1, none⟩ = some (.int .i64 L[k].kind) := C1 k hkL 1 (by decide)
      have x2' : wr.cell? ⟨g1, f1 + k * 10 + 2, none⟩ = some (.int .i64 L[k].shares) := C1 k hkL 2 (by decide)
      have x3' : wr.cell? ⟨g1, f1 + k * 10 + 3, none⟩ = some (.int .i64 L[k].lend) := C1 k hkL 3 (by decide)
      have x4' : wr.cell? ⟨g1, f1 + k * 10 + 4, none⟩ = some (.int .i64 L[k].borrow) := C1 k hkL 4 (by decide)
      have x5' : wr.cell? ⟨g1, f1 + k * 10 + 5, none⟩ = some (.int .i64 L[k].queues) := C1 k hkL 5 (by decide)
      have x6' : wr.cell? ⟨g1, f1 + k * 10 + 6, none⟩ = some (.int .i64 L[k].hand) := C1 k hkL 6 (by decide)
      have x7' : wr.cell? ⟨g1, f1 + k * 10 + 7, none⟩ = some (.int .i64 L[k].length) := C1 k hkL 7 (by decide)
      have x8' : wr.cell? ⟨g1, f1 + k * 10 + 8, none⟩ = some (.int .i64 L[k].wait) := C1 k hkL 8 (by decide)
      have x9' : wr.cell? ⟨g1, f1 + k * 10 + 9, none⟩ = some (.int .i64 L[k].guess) := C1 k hkL 9 (by decide)
      have y0' : wr.cell? ⟨g2, f2 + k * 10, none⟩ = some (.string L[k].name) := C2 k hkL 0 (by decide)
      have y1' : wr.cell? ⟨g2, f2 + k * 10 + 1, none⟩ = some (.int .i64 L[k].kind) := C2 k hkL 1 (by decide)
      have y2' : wr.cell? ⟨g2, f2 + k * 10 + 2, none⟩ = some (.int .i64 L[k].shares) := C2 k hkL 2 (by decide)
      have y3' : wr.cell? ⟨g2, f2 + k * 10 + 3, none⟩ = some (.int .i64 L[k].lend) := C2 k hkL 3 (by decide)
      have y4' : wr.cell? ⟨g2, f2 + k * 10 + 4, none⟩ = some (.int .i64 L[k].borrow) := C2 k hkL 4 (by decide)
      have y5' : wr.cell? ⟨g2, f2 + k * 10 + 5, none⟩ = some (.int .i64 L[k].queues) := C2 k hkL 5 (by decide)
      have y6' : wr.cell? ⟨g2, f2 + k * 10 + 6, none⟩ = some (.int .i64 L[k].hand) := C2 k hkL 6 (by decide)
      have y7' : wr.cell? ⟨g2, f2 + k * 10 + 7, none⟩ = some (.int .i64 L[k].length) := C2 k hkL 7 (by decide)
      have y8' : wr.cell? ⟨g2, f2 + k * 10 + 8, none⟩ = some (.int .i64 L[k].wait) := C2 k hkL 8 (by decide)
      have y9' : wr.cell? ⟨g2, f2 + k * 10 + 9, none⟩ = some (.int .i64 L[k].guess) := C2 k hkL 9 (by decide)
      have HK : Hd (k < n) := ⟨hlt⟩
      clear C1 C2
      generalize L[k] = l at *
      clear hkL
      obtain ⟨q0, q1, q2, q3, q4, q5, q6, q7, q8, q9⟩ := l
      go_wp2_with fail
      go_big_quiet (fail)
      go_wp2
      go_roundw
      case rel => exact ⟨k + 1, HK.out, by go_num, ⟨hT.out.grown (below_drew _ _)⟩⟩
      case measure => have := HK.out; simp [intOf]; omega
    · obtain rfl : k = n := by omega
      go_wp2_with fail
      go_loopw [6] (fun i wr => ∃ j : Nat, j ≤ m ∧ i = .int .i64 j ∧ Hd (TwoR w wr A1 A2 x0 x1 x2 x3 a1 a2 s1 s2 c1 c2 d1 d2 L S V1 V2)) (fun i _ => m - (intOf i).toNat)
      case atStart => exact ⟨0, Nat.zero_le _, rfl, hT⟩
      case round =>
        obtain ⟨j, hj, rfl, hU⟩ := hrel
        clear hT e1 e2
        have f1 : wr.cell? ⟨A1, 5, none⟩ = some (.slice s1 m d1) := by rw [HN.out.2]; exact hU.out.b1.cellv 5 rfl
        have f2 : wr.cell? ⟨A2, 5, none⟩ = some (.slice s2 m d2) := by rw [HN.out.2]; exact hU.out.b2.cellv 5 rfl
        by_cases hlt : j < m
        · have hjS : j < S.length := by rw [← HN.out.2]; exact hlt
          have hj1 : j < V1.length := by rw [HV.out.1]; exact hjS
          have hj2 : j < V2.length := by rw [HV.out.2]; exact hjS
          obtain ⟨g1, p1, rfl, hg1, C1⟩ := hU.out.o1 (by omega)
          obtain ⟨g2, p2, rfl, hg2, C2⟩ := hU.out.o2 (by omega)
          have R1 := hU.out.r1 j hjS hj1
          have R2 := hU.out.r2 j hjS hj2
          obtain ⟨ar, cr, er⟩ : ∃ a c, V1[j] = .slice a S[j].rules.length c := by obtain ⟨a, c, e, _⟩ := R1; exact ⟨a, c, e⟩
          obtain ⟨ar', cr', er'⟩ : ∃ a c, V2[j] = .slice a S[j].rules.length c := by obtain ⟨a, c, e, _⟩ := R2; exact ⟨a, c, e⟩
          rw [er] at R1
          rw [er'] at R2
          have x0' : wr.cell? ⟨g1, p1 + j * 5, none⟩ = some (.string S[j].name) := C1 j hjS hj1 0 (by decide)
          have x1' : wr.cell? ⟨g1, p1 + j * 5 + 1, none⟩ = some (.string S[j].level) := C1 j hjS hj1 1 (by decide)
          have x2' : wr.cell? ⟨g1, p1 + j * 5 + 2, none⟩ = some (.int .i64 S[j].rank) := C1 j hjS hj1 2 (by decide)
          have x3' : wr.cell? ⟨g1, p1 + j * 5 + 3, none⟩ = some (.int .i64 S[j].way) := C1 j hjS hj1 3 (by decide)
          have x4' : wr.cell? ⟨g1, p1 + j * 5 + 4, none⟩ = some (.slice ar S[j].rules.length cr) := (C1 j hjS hj1 4 (by decide)).trans (congrArg some er)
          have y0' : wr.cell? ⟨g2, p2 + j * 5, none⟩ = some (.string S[j].name) := C2 j hjS hj2 0 (by decide)
          have y1' : wr.cell? ⟨g2, p2 + j * 5 + 1, none⟩ = some (.string S[j].level) := C2 j hjS hj2 1 (by decide)
          have y2' : wr.cell? ⟨g2, p2 + j * 5 + 2, none⟩ = some (.int .i64 S[j].rank) := C2 j hjS hj2 2 (by decide)
          have y3' : wr.cell? ⟨g2, p2 + j * 5 + 3, none⟩ = some (.int .i64 S[j].way) := C2 j hjS hj2 3 (by decide)
          have y4' : wr.cell? ⟨g2, p2 + j * 5 + 4, none⟩ = some (.slice ar' S[j].rules.length cr') := (C2 j hjS hj2 4 (by decide)).trans (congrArg some er')
          have SR : Hd (∀ W, Below wr.heap.size wr W → Calls Tryz.prog 20 #[.slice ar S[j].rules.length cr, .slice ar' S[j].rules.length cr'] W fun e w' => e = .returned (.bool true) ∧ ∃ q, w' = W.drewN q) := ⟨fun W b => by
            exact samerR (R1.carry b) (R2.carry b)⟩
          have hA1 := hU.out.b1.lt
          have hA2 := hU.out.b2.lt
          have HJ : Hd (j < m) := ⟨hlt⟩
          have HU : Hd (∀ W, Below wr.heap.size wr W → TwoR w W A1 A2 x0 x1 x2 x3 a1 a2 (some ⟨g1, p1, none⟩) (some ⟨g2, p2, none⟩) c1 c2 d1 d2 L S V1 V2) := ⟨fun W b => hU.out.grown b⟩
          clear C1 C2 R1 R2 er er' hU
          generalize S[j] = s at *
          clear hjS hj1 hj2
          obtain ⟨q0, q1, q2, q3, q4⟩ := s
          simp only at SR x0' x1' x2' x3' x4' y0' y1' y2' y3' y4'
          generalize q4.length = nq4 at *
          have BX1 : Hd (Below wr.heap.size wr ((wr.alloc (.cells #[.string q0, .string q1, .int .i64 q2, .int .i64 q3, .slice ar nq4 cr] 41)).alloc (.cells #[.string q0, .string q1, .int .i64 q2, .int .i64 q3, .slice ar' nq4 cr'] 41)).drew) := ⟨(((Below.refl _ _).alloc (Nat.le_refl _) _).alloc (by simp) _).drew⟩
          have BX2 : Hd (Below wr.heap.size wr ((wr.alloc (.cells #[.string q0, .string q1, .int .i64 q2, .int .i64 q3, .slice ar' nq4 cr'] 41)).alloc (.cells #[.string q0, .string q1, .int .i64 q2, .int .i64 q3, .slice ar nq4 cr] 41)).drew) := ⟨(((Below.refl _ _).alloc (Nat.le_refl _) _).alloc (by simp) _).drew⟩
          have BY1 : Hd (∀ q, Below wr.heap.size wr (World.drewN _ q)) := ⟨fun q => BX1.out.trans ⟨rfl, rfl, rfl, Nat.le_refl _, fun _ _ => rfl⟩⟩
          have BY2 : Hd (∀ q, Below wr.heap.size wr (World.drewN _ q)) := ⟨fun q => BX2.out.trans ⟨rfl, rfl, rfl, Nat.le_refl _, fun _ _ => rfl⟩⟩
          go_wp2_with fail
          go_region_held (fun w' => (w'.cell? ⟨A1, 5, none⟩ = some (.slice (some ⟨g1, p1, none⟩) m d1) ∧ w'.cell? ⟨A2, 5, none⟩ = some (.slice (some ⟨g2, p2, none⟩) m d2)) ∧ (w'.cell? ⟨g1, p1 + j * 5, none⟩ = some (.string q0) ∧ w'.cell? ⟨g1, p1 + j * 5 + 1, none⟩ = some (.string q1) ∧ w'.cell? ⟨g1, p1 + j * 5 + 2, none⟩ = some (.int .i64 q2) ∧ w'.cell? ⟨g1, p1 + j * 5 + 3, none⟩ = some (.int .i64 q3) ∧ w'.cell? ⟨g1, p1 + j * 5 + 4, none⟩ = some (.slice ar nq4 cr)) ∧ (w'.cell? ⟨g2, p2 + j * 5, none⟩ = some (.string q0) ∧ w'.cell? ⟨g2, p2 + j * 5 + 1, none⟩ = some (.string q1) ∧ w'.cell? ⟨g2, p2 + j * 5 + 2, none⟩ = some (.int .i64 q2) ∧ w'.cell? ⟨g2, p2 + j * 5 + 3, none⟩ = some (.int .i64 q3) ∧ w'.cell? ⟨g2, p2 + j * 5 + 4, none⟩ = some (.slice ar' nq4 cr'))) (go_keep) (fail)
          all_goals
            go_wp2_with (go_at_call 20; refine (SR.out _ (by first | exact BX1.out | exact BX2.out)).mono ?_; rintro e w5 ⟨rfl, q, rfl⟩)
            go_roundw
            case rel => exact ⟨j + 1, HJ.out, by go_num, ⟨by first | exact HU.out _ (BY1.out _) | exact HU.out _ (BY2.out _)⟩⟩
            case measure => have := HJ.out; simp [intOf]; omega
        · obtain rfl : j = m := by omega
          have R : Hd (Below w.heap.size w wr) := ⟨hU.out.bel⟩
          clear hU
          go_wp2_with fail
          go_ret
          exact ⟨rfl, R.out⟩


end Go.Proofs.YtfollcabppkihaaGreatDoor

namespace Go.Proofs.YtfollcabppkihaaGreatDoor
open Go.RowKit

theorem print_not {C : Cf} (h : printE C ≠ 0) : printS C = ⟨#[]⟩ ∧ (printE C = 2 ∨ printE C = 3) := by
  refine ⟨by unfold printS; rw [if_neg h], ?_⟩
  unfold printE at h ⊢
  split
  · rename_i hf
    rw [if_pos hf] at h
    split
    · exact .inr rfl
    · rename_i h1
      rw [if_neg h1] at h
      exact absurd rfl h
  · exact .inl rfl
theorem print_said {C : Cf} (h : printE C = 0) : Formed C ∧ (outB C).size ≤ 65536 ∧ printS C = outB C := by
  have hs : printS C = outB C := by unfold printS; rw [if_pos h]
  unfold printE at h
  cases hf : formed C with
  | false => rw [hf, if_neg (by decide)] at h; exact absurd h (by decide)
  | true =>
    rw [hf, if_pos rfl] at h
    refine ⟨formed_iff.1 hf, ?_, hs⟩
    by_cases h1 : 65536 < (outB C).size
    · rw [if_pos h1] at h; exact absurd h (by decide)
    · omega

set_option maxRecDepth 20000 in
set_option maxHeartbeats 2000000 in
theorem back_all (v : Value) (C : Cf) (w : World) (h : CfR w v C) (hT : Tab w) :
    Calls Tryz.prog 3 #[v] w fun e w' => e = .returned (.bool true) ∧ Below w.heap.size w w' := by
  obtain ⟨x0, x1, x2, x3, a1, n1, c1, a2, n2, c2, rfl⟩ : Six v := by
    obtain ⟨aL, cL, aS, cS, V, e, -⟩ := h.ex
    exact ⟨_, _, _, _, _, _, _, _, _, _, e⟩
  have AL := alloc_below w (.cells #[.int .i64 x0, .int .i64 x1, .int .i64 x2, .int .i64 x3, .slice a1 n1 c1, .slice a2 n2 c2] 25)
  have N1 := Blk.new w 25 #[.int .i64 x0, .int .i64 x1, .int .i64 x2, .int .i64 x3, .slice a1 n1 c1, .slice a2 n2 c2]
  have H1 := h.carry AL
  have HT : Hd (∀ W, Below w.heap.size w W → Tab W) := ⟨fun W hW => hT.stays hW⟩
  have AW := awake_any _ (HT.out _ AL)
  have B1 : Hd (Below w.heap.size w (w.alloc (.cells #[.int .i64 x0, .int .i64 x1, .int .i64 x2, .int .i64 x3, .slice a1 n1 c1, .slice a2 n2 c2] 25))) := ⟨AL⟩
  clear AL h hT
  go_enter Tryz.func3, Tryz.ntmps3
  go_upto_region 1 with fail
  generalize w.alloc _ = w1 at *
  obtain ⟨g, hg⟩ : ∃ g, g = w.heap.size := ⟨_, rfl⟩
  have M1 : Hd (Blk w1 g 25 #[.int .i64 x0, .int .i64 x1, .int .i64 x2, .int .i64 x3, .slice a1 n1 c1, .slice a2 n2 c2]) := ⟨by rw [hg]; exact N1⟩
  rw [← hg]
  clear N1 hg
  go_wp2_with fail
  go_at_call 5
  refine AW.mono ?_
  rintro e w2 ⟨rfl, b2⟩
  have N2 := M1.out.kept (Kept.of_below b2 (fun _ => False)) id
  have H2 := H1.carry b2
  have B2 : Hd (Below w.heap.size w w2) := ⟨B1.out.trans (b2.mono B1.out.size)⟩
  have SA := small_any _ C w2 H2
  clear AW M1 H1 B1 b2
  obtain ⟨⟨y0, y1, y2, y3, y4, y5⟩, -⟩ := N2.six
  have HN2 : Hd _ := ⟨N2⟩
  have HH2 : Hd _ := ⟨H2⟩
  clear N2 H2
  go_wp2_with fail
  go_at_call 6
  refine SA.mono ?_
  rintro e w3 ⟨⟨bb, rfl⟩, b3⟩
  have N3 := HN2.out.kept (Kept.of_below b3 (fun _ => False)) id
  have H3 := HH2.out.carry b3
  have B3 : Hd (Below w.heap.size w w3) := ⟨B2.out.trans (b3.mono B2.out.size)⟩
  clear SA HN2 HH2 B2 b3 y0 y1 y2 y3 y4 y5
  cases bb with
  | false =>
    clear N3 H3
    go_wp2_with fail
    go_ret
    exact ⟨rfl, B3.out⟩
  | true =>
    have PR := print_ok _ C w3 H3 (HT.out w3 B3.out)
    obtain ⟨⟨y0, y1, y2, y3, y4, y5⟩, -⟩ := N3.six
    have HN3 : Hd _ := ⟨N3⟩
    have HH3 : Hd _ := ⟨H3⟩
    clear N3 H3
    by_cases hE : printE C = 0
    · obtain ⟨hF, ho, hs⟩ := print_said hE
      obtain ⟨p1, p2⟩ := print_back hF ho
      rw [hE, hs] at PR
      have P2 := fun W => parse_ok (outB C) W (by omega)
      rw [p1, p2] at P2
      have e1 : errV 0 (parL (outB C)) = .nilIface := rfl
      rw [e1] at P2
      have HF : Hd (Formed C) := ⟨hF⟩
      clear hE hF hs p1 p2 e1 ho
      generalize outB C = OUT at *
      go_wp2_with fail
      go_at_call 7
      refine PR.mono ?_
      rintro e w4 ⟨rfl, b4⟩
      have N4 := HN3.out.kept (Kept.of_below b4 (fun _ => False)) id
      have H4 := HH3.out.carry b4
      have B4 : Hd (Below w.heap.size w w4) := ⟨B3.out.trans (b4.mono B3.out.size)⟩
      clear PR HN3 HH3 B3 b4 y0 y1 y2 y3 y4 y5
      have HN4 : Hd _ := ⟨N4⟩
      have HH4 : Hd _ := ⟨H4⟩
      clear N4 H4
      go_wp2_with fail
      go_at_call 8
      refine (P2 _).mono ?_
      rintro e w6 ⟨v6, rfl, cf6, b6⟩
      obtain ⟨z0, z1, z2, z3, d1, k1, e1, d2, k2, e2, rfl⟩ := cf6.six
      have AL := alloc_below w6 (.cells #[.int .i64 z0, .int .i64 z1, .int .i64 z2, .int .i64 z3, .slice d1 k1 e1, .slice d2 k2 e2] 25)
      have N7 := Blk.new w6 25 #[.int .i64 z0, .int .i64 z1, .int .i64 z2, .int .i64 z3, .slice d1 k1 e1, .slice d2 k2 e2]
      have B7 : Hd (Below w.heap.size w (w6.alloc (.cells #[.int .i64 z0, .int .i64 z1, .int .i64 z2, .int .i64 z3, .slice d1 k1 e1, .slice d2 k2 e2] 25))) := ⟨(B4.out.trans (b6.mono B4.out.size)).trans (AL.mono (Nat.le_trans B4.out.size b6.size))⟩
      have D7 := (cf6.gone AL).read HF.out
      have C7 := (HH4.out.carry b6).carry AL
      have M7 := (HN4.out.kept (Kept.of_below b6 (fun _ => False)) id).kept (Kept.of_below AL (fun _ => False)) id
      have SC := same_cfr C7 D7
      clear cf6 b6 AL P2 HN4 HH4 B4 D7 C7
      go_upto_region 9 with fail
      generalize w6.alloc _ = w7 at *
      generalize w6.heap.size = g7 at *
      obtain ⟨⟨y0, y1, y2, y3, y4, y5⟩, -⟩ := N7.six
      obtain ⟨⟨t0, t1, t2, t3, t4, t5⟩, -⟩ := M7.six
      clear N7 M7 HF HT
      go_wp2_with (go_at_call 9; refine SC.mono ?_; rintro e w9 ⟨rfl, b9⟩)
      go_ret
      exact ⟨rfl, B7.out.trans (b9.mono B7.out.size)⟩
    · obtain ⟨hs, h23⟩ := print_not hE
      rw [hs] at PR
      clear hs hE HH3 HN3
      rcases h23 with h2 | h2
      · rw [h2] at PR
        clear h2
        go_wp2_with fail
        go_at_call 7
        refine PR.mono ?_
        rintro e w4 ⟨rfl, b4⟩
        have B4 : Hd (Below w.heap.size w w4) := ⟨B3.out.trans (b4.mono B3.out.size)⟩
        go_wp2_with fail
        go_ret
        exact ⟨rfl, B4.out⟩
      · rw [h2] at PR
        clear h2
        go_wp2_with fail
        go_at_call 7
        refine PR.mono ?_
        rintro e w4 ⟨rfl, b4⟩
        have B4 : Hd (Below w.heap.size w w4) := ⟨B3.out.trans (b4.mono B3.out.size)⟩
        go_wp2_with fail
        go_ret
        exact ⟨rfl, B4.out⟩
end Go.Proofs.YtfollcabppkihaaGreatDoor

namespace Go.Proofs.YtfollcabppkihaaGreatDoor
open Go.RowKit

theorem cl3 : Tryz.prog.cellsOf 3 = 1 := by kernel_rfl
theorem cl9 : Tryz.prog.cellsOf 9 = 1 := by kernel_rfl
theorem cl22 : Tryz.prog.cellsOf 22 = 1 := by kernel_rfl
theorem cl23 : Tryz.prog.cellsOf 23 = 1 := by kernel_rfl
theorem cl25 : Tryz.prog.cellsOf 25 = 6 := by kernel_rfl
theorem cl38 : Tryz.prog.cellsOf 38 = 10 := by kernel_rfl
theorem cl39 : Tryz.prog.cellsOf 39 = 1 := by kernel_rfl
theorem cl41 : Tryz.prog.cellsOf 41 = 5 := by kernel_rfl
theorem cl42 : Tryz.prog.cellsOf 42 = 1 := by kernel_rfl
theorem cl44 : Tryz.prog.cellsOf 44 = 5 := by kernel_rfl
theorem len_succ {α : Type} {n : Nat} : ∀ {l : List α}, l.length = n + 1 → ∃ a t, l = a :: t ∧ t.length = n
  | a :: t, h => ⟨a, t, rfl, by simpa using h⟩
theorem len5 {α : Type} {l : List α} (h : l.length = 5) : ∃ a b c d e, l = [a, b, c, d, e] := by
  obtain ⟨a, t1, rfl, h1⟩ := len_succ h
  obtain ⟨b, t2, rfl, h2⟩ := len_succ h1
  obtain ⟨c, t3, rfl, h3⟩ := len_succ h2
  obtain ⟨d, t4, rfl, h4⟩ := len_succ h3
  obtain ⟨e, t5, rfl, h5⟩ := len_succ h4
  obtain rfl := List.length_eq_zero_iff.1 h5
  exact ⟨a, b, c, d, e, rfl⟩
theorem len6 {α : Type} {l : List α} (h : l.length = 6) : ∃ a b c d e f, l = [a, b, c, d, e, f] := by
  obtain ⟨a, t1, rfl, h1⟩ := len_succ h
  obtain ⟨b, c, d, e, f, rfl⟩ := len5 h1
  exact ⟨a, b, c, d, e, f, rfl⟩
theorem len10 {α : Type} {l : List α} (h : l.length = 10) : ∃ a b c d e f g i j k, l = [a, b, c, d, e, f, g, i, j, k] := by
  obtain ⟨a, t1, rfl, h1⟩ := len_succ h
  obtain ⟨b, t2, rfl, h2⟩ := len_succ h1
  obtain ⟨c, t3, rfl, h3⟩ := len_succ h2
  obtain ⟨d, t4, rfl, h4⟩ := len_succ h3
  obtain ⟨e, f, g, i, j, k, rfl⟩ := len6 h4
  exact ⟨a, b, c, d, e, f, g, i, j, k, rfl⟩
theorem open_list {H : Type} {enc : TypeId × Value → H} {W : World} {base : Nat} {sp : Nat → Bool} {held : Bool} {fuel : Nat} {x : DataW H × List MemPlace} {v : Value} (h : DataW.trod enc Tryz.prog W base sp held fuel 42 [v] = some x) : ∃ L, LsR W v L := by
  rcases Go.ChangeShapes.open_strings Tryz.underlying42 Tryz.underlying9 cl9 h with ⟨hcs, _⟩ | ⟨a, l, c, ss, hcs, _, hl, hm, hlen, _, hcell, hsz⟩
  · obtain rfl : v = .slice none 0 0 := by simpa using hcs
    exact ⟨[], none, 0, rfl, fun h => absurd h (Nat.lt_irrefl 0), Nat.le_refl _, Nat.zero_le _, fun _ h => by cases h⟩
  · obtain rfl : v = .slice (some a) l c := by simpa using hcs
    have hle : l ≤ ss.length := by rw [hlen]; split <;> omega
    have hlt : (ss.take l).length = l := by rw [List.length_take]; omega
    have hg : ∀ k, k < l → gt (ss.take l) k = ss.getD k ByteArray.empty := fun k hk => by
      rw [gt_eq (by omega), List.getElem_take, List.getD, List.getElem?_eq_getElem (by omega)]
      rfl
    have hm9 : c ≤ 9223372036854775807 := by unfold maxLen at hm; omega
    refine ⟨ss.take l, some a, c, by rw [hlt], fun hn => ?_, by omega, by omega, fun y hy => ?_⟩
    · rw [hlt] at hn
      obtain ⟨b, off, spot⟩ := a
      have hspot : spot = none := by simpa [Addr.add] using World.cell?_spot (hcell 0 (by omega))
      subst hspot
      refine ⟨b, off, rfl, ?_, fun k hk => ?_⟩
      · have := hcell 0 (by omega)
        rw [Go.WideShapes.add_plain] at this
        exact World.block_lt_of_cell? _ _ this
      · rw [hlt] at hk
        have q0 := hcell k (by omega)
        rw [Go.WideShapes.add_plain] at q0
        rw [q0, hg k hk]
    · have := hsz y (List.mem_of_mem_take hy)
      unfold maxLen at this
      omega
theorem open_rule {H : Type} {enc : TypeId × Value → H} {W : World} {base : Nat} {sp : Nat → Bool} {held : Bool} {fuel : Nat} {x : DataW H × List MemPlace} {cs : List Value} (h : DataW.trod enc Tryz.prog W base sp held fuel 44 cs = some x) : ∃ r v0 v1 v2 v3 v4, cs = [v0, v1, v2, v3, v4] ∧ RuR W v0 v1 v2 v3 v4 r := by
  obtain ⟨xs, k, hk, hxy, hcl, hxl, hf⟩ := DataW.trod_struct Tryz.underlying44 h
  rw [cl44] at hcl
  obtain ⟨v0, v1, v2, v3, v4, rfl⟩ := len5 hcl
  obtain ⟨y0, y1, y2, y3, y4, rfl⟩ := len5 (show xs.length = 5 from hxl)
  · skip
    have g0 := hf 0 _ rfl
    have g1 := hf 1 _ rfl
    have g2 := hf 2 _ rfl
    have g3 := hf 3 _ rfl
    have g4 := hf 4 _ rfl
    simp [cl42] at g0 g1 g2 g3 g4
    obtain ⟨L0, l0⟩ := open_list g0
    obtain ⟨L1, l1⟩ := open_list g1
    obtain ⟨L2, l2⟩ := open_list g2
    obtain ⟨L3, l3⟩ := open_list g3
    obtain ⟨L4, l4⟩ := open_list g4
    exact ⟨⟨L0, L1, L2, L3, L4⟩, v0, v1, v2, v3, v4, rfl, l0, l1, l2, l3, l4⟩
theorem open_level {H : Type} {enc : TypeId × Value → H} {W : World} {base : Nat} {sp : Nat → Bool} {held : Bool} {fuel : Nat} {x : DataW H × List MemPlace} {cs : List Value} (h : DataW.trod enc Tryz.prog W base sp held fuel 38 cs = some x) : ∃ l : Lv, cs = lvC l ∧ l.name.size ≤ 9223372036854775807 := by
  obtain ⟨xs, k, hk, hxy, hcl, hxl, hf⟩ := DataW.trod_struct Tryz.underlying38 h
  rw [cl38] at hcl
  obtain ⟨v0, v1, v2, v3, v4, v5, v6, v7, v8, v9, rfl⟩ := len10 hcl
  obtain ⟨y0, y1, y2, y3, y4, y5, y6, y7, y8, y9, rfl⟩ := len10 (show xs.length = 10 from hxl)
  · skip
    have g0 := hf 0 _ rfl
    have g1 := hf 1 _ rfl
    have g2 := hf 2 _ rfl
    have g3 := hf 3 _ rfl
    have g4 := hf 4 _ rfl
    have g5 := hf 5 _ rfl
    have g6 := hf 6 _ rfl
    have g7 := hf 7 _ rfl
    have g8 := hf 8 _ rfl
    have g9 := hf 9 _ rfl
    simp [cl3, cl9] at g0 g1 g2 g3 g4 g5 g6 g7 g8 g9
    obtain ⟨s0, h0, _, w0⟩ := DataW.trod_string Tryz.underlying9 g0
    obtain ⟨n1, h1, _, _⟩ := DataW.trod_int Tryz.underlying3 g1
    obtain ⟨n2, h2, _, _⟩ := DataW.trod_int Tryz.underlying3 g2
    obtain ⟨n3, h3, _, _⟩ := DataW.trod_int Tryz.underlying3 g3
    obtain ⟨n4, h4, _, _⟩ := DataW.trod_int Tryz.underlying3 g4
    obtain ⟨n5, h5, _, _⟩ := DataW.trod_int Tryz.underlying3 g5
    obtain ⟨n6, h6, _, _⟩ := DataW.trod_int Tryz.underlying3 g6
    obtain ⟨n7, h7, _, _⟩ := DataW.trod_int Tryz.underlying3 g7
    obtain ⟨n8, h8, _, _⟩ := DataW.trod_int Tryz.underlying3 g8
    obtain ⟨n9, h9, _, _⟩ := DataW.trod_int Tryz.underlying3 g9
    simp at h0 h1 h2 h3 h4 h5 h6 h7 h8 h9
    subst h0 h1 h2 h3 h4 h5 h6 h7 h8 h9
    exact ⟨⟨s0, n1, n2, n3, n4, n5, n6, n7, n8, n9⟩, rfl, by unfold maxLen at w0; simp only; omega⟩
theorem open_rules {H : Type} {enc : TypeId × Value → H} {W : World} {base : Nat} {sp : Nat → Bool} {held : Bool} {fuel : Nat} {x : DataW H × List MemPlace} {v : Value} (h : DataW.trod enc Tryz.prog W base sp held fuel 39 [v] = some x) : ∃ rs, RlR W v rs := by
  rcases Go.Deep.open_slice Tryz.underlying39 h with ⟨hcs, _⟩ | ⟨a, l, c, m, n, D, Pl, hcs, _, hl, hm, hmm, _, hc⟩
  · obtain rfl : v = .slice none 0 0 := by simpa using hcs
    exact ⟨[], none, 0, rfl, Nat.zero_le _, fun h => absurd h (Nat.lt_irrefl 0)⟩
  · obtain rfl : v = .slice (some a) l c := by simpa using hcs
    have hlm : l ≤ m := by rw [hmm]; split <;> omega
    have hm9 : c ≤ 9223372036854775807 := by unfold maxLen at hm; omega
    have each : ∀ k, k < l → ∃ r : Rl, ∃ v0 v1 v2 v3 v4, (∀ j, j < 5 → W.cell? (a.add (k * 5 + j)) = [v0, v1, v2, v3, v4][j]?) ∧ RuR W v0 v1 v2 v3 v4 r := by
      intro k hk
      obtain ⟨cs', h1, h2⟩ := hc k (by omega)
      rw [cl44] at h1
      obtain ⟨_, hlen, hcell⟩ := World.cells?_some h1
      obtain ⟨r, v0, v1, v2, v3, v4, rfl, hr⟩ := open_rule h2
      exact ⟨r, v0, v1, v2, v3, v4, fun j hj => by have := hcell j hj; rw [Go.Deep.add_add] at this; exact this, hr⟩
    have : Inhabited Rl := ⟨⟨[], [], [], [], []⟩⟩
    obtain ⟨q, hq⟩ := Go.Deep.choose_lt each
    have hlen : ((List.range l).map q).length = l := by simp
    refine ⟨(List.range l).map q, some a, c, by rw [hlen], by rw [hlen]; omega, fun hn => ?_⟩
    rw [hlen] at hn
    obtain ⟨b, off, spot⟩ := a
    obtain ⟨u0, u1, u2, u3, u4, hu, _⟩ := hq 0 hn
    have hu0 : W.cell? (Addr.add ⟨b, off, spot⟩ (0 * 5 + 0)) = some u0 := hu 0 (by decide)
    have hspot : spot = none := by simpa [Addr.add] using World.cell?_spot hu0
    subst hspot
    rw [Go.WideShapes.add_plain] at hu0
    refine ⟨b, off, rfl, World.block_lt_of_cell? _ _ hu0, fun k hk => ?_⟩
    obtain ⟨v0, v1, v2, v3, v4, hcl, hr⟩ := hq k (by rw [hlen] at hk; exact hk)
    have e : ((List.range l).map q)[k] = q k := by simp
    have hcl' : ∀ j, j < 5 → W.cell? ⟨b, off + k * 5 + j, none⟩ = [v0, v1, v2, v3, v4][j]? := fun j hj => by have := hcl j hj; rw [Go.WideShapes.add_plain, ← Nat.add_assoc] at this; exact this
    rw [e]
    exact ⟨v0, v1, v2, v3, v4, ⟨hcl' 0 (by decide), hcl' 1 (by decide), hcl' 2 (by decide), hcl' 3 (by decide), hcl' 4 (by decide)⟩, hr⟩
theorem open_schema {H : Type} {enc : TypeId × Value → H} {W : World} {base : Nat} {sp : Nat → Bool} {held : Bool} {fuel : Nat} {x : DataW H × List MemPlace} {cs : List Value} (h : DataW.trod enc Tryz.prog W base sp held fuel 41 cs = some x) : ∃ p : Sc × Value, cs = scC p.1 p.2 ∧ p.1.name.size ≤ 9223372036854775807 ∧ p.1.level.size ≤ 9223372036854775807 ∧ RlR W p.2 p.1.rules := by
  obtain ⟨xs, k, hk, hxy, hcl, hxl, hf⟩ := DataW.trod_struct Tryz.underlying41 h
  rw [cl41] at hcl
  obtain ⟨v0, v1, v2, v3, v4, rfl⟩ := len5 hcl
  obtain ⟨y0, y1, y2, y3, y4, rfl⟩ := len5 (show xs.length = 5 from hxl)
  · skip
    have g0 := hf 0 _ rfl
    have g1 := hf 1 _ rfl
    have g2 := hf 2 _ rfl
    have g3 := hf 3 _ rfl
    have g4 := hf 4 _ rfl
    simp [cl3, cl9, cl39] at g0 g1 g2 g3 g4
    obtain ⟨s0, h0, _, w0⟩ := DataW.trod_string Tryz.underlying9 g0
    obtain ⟨s1, h1, _, w1⟩ := DataW.trod_string Tryz.underlying9 g1
    obtain ⟨n2, h2, _, _⟩ := DataW.trod_int Tryz.underlying3 g2
    obtain ⟨n3, h3, _, _⟩ := DataW.trod_int Tryz.underlying3 g3
    obtain ⟨rs, hr⟩ := open_rules g4
    simp at h0 h1 h2 h3
    subst h0 h1 h2 h3
    exact ⟨(⟨s0, s1, n2, n3, rs⟩, v4), rfl, by unfold maxLen at w0; simp only; omega, by unfold maxLen at w1; simp only; omega, hr⟩
theorem open_levels {H : Type} {enc : TypeId × Value → H} {W : World} {base : Nat} {sp : Nat → Bool} {held : Bool} {fuel : Nat} {x : DataW H × List MemPlace} {v : Value} (h : DataW.trod enc Tryz.prog W base sp held fuel 22 [v] = some x) : ∃ L a c, v = .slice a L.length c ∧ L.length ≤ c ∧ c ≤ 9223372036854775807 ∧ LvR W a L ∧ ∀ l ∈ L, l.name.size ≤ 9223372036854775807 := by
  rcases Go.Deep.open_slice Tryz.underlying22 h with ⟨hcs, _⟩ | ⟨a, l, c, m, n, D, Pl, hcs, _, hl, hm, hmm, _, hc⟩
  · obtain rfl : v = .slice none 0 0 := by simpa using hcs
    exact ⟨[], none, 0, rfl, Nat.le_refl _, Nat.zero_le _, fun h => absurd h (Nat.lt_irrefl 0), fun _ h => by cases h⟩
  · obtain rfl : v = .slice (some a) l c := by simpa using hcs
    have hlm : l ≤ m := by rw [hmm]; split <;> omega
    have hm9 : c ≤ 9223372036854775807 := by unfold maxLen at hm; omega
    have each : ∀ k, k < l → ∃ r : Lv, (∀ j, j < 10 → W.cell? (a.add (k * 10 + j)) = (lvC r)[j]?) ∧ r.name.size ≤ 9223372036854775807 := by
      intro k hk
      obtain ⟨cs', h1, h2⟩ := hc k (by omega)
      rw [cl38] at h1
      obtain ⟨_, hlen, hcell⟩ := World.cells?_some h1
      obtain ⟨r, rfl, hr⟩ := open_level h2
      exact ⟨r, fun j hj => by have := hcell j hj; rw [Go.Deep.add_add] at this; exact this, hr⟩
    have : Inhabited Lv := ⟨⟨⟨#[]⟩, 0, 0, 0, 0, 0, 0, 0, 0, 0⟩⟩
    obtain ⟨q, hq⟩ := Go.Deep.choose_lt each
    have hlen : ((List.range l).map q).length = l := by simp
    refine ⟨(List.range l).map q, some a, c, by rw [hlen], by omega, hm9, fun hn => ?_, fun y hy => ?_⟩
    · rw [hlen] at hn
      obtain ⟨b, off, spot⟩ := a
      have hu0 : W.cell? (Addr.add ⟨b, off, spot⟩ (0 * 10 + 0)) = some (.string (q 0).name) := (hq 0 hn).1 0 (by decide)
      have hspot : spot = none := by simpa [Addr.add] using World.cell?_spot hu0
      subst hspot
      rw [Go.WideShapes.add_plain] at hu0
      refine ⟨b, off, rfl, World.block_lt_of_cell? _ _ hu0, fun k hk j hj => ?_⟩
      have e : ((List.range l).map q)[k] = q k := by simp
      have := (hq k (by rw [hlen] at hk; exact hk)).1 j hj
      rw [Go.WideShapes.add_plain, ← Nat.add_assoc] at this
      rw [e]
      exact this
    · obtain ⟨k, hk, rfl⟩ := List.mem_map.1 hy
      exact (hq k (List.mem_range.1 hk)).2
theorem open_schemas {H : Type} {enc : TypeId × Value → H} {W : World} {base : Nat} {sp : Nat → Bool} {held : Bool} {fuel : Nat} {x : DataW H × List MemPlace} {v : Value} (h : DataW.trod enc Tryz.prog W base sp held fuel 23 [v] = some x) : ∃ S V a c, v = .slice a S.length c ∧ S.length ≤ c ∧ c ≤ 9223372036854775807 ∧ V.length = S.length ∧ ScR W a S V ∧ (∀ s ∈ S, s.name.size ≤ 9223372036854775807 ∧ s.level.size ≤ 9223372036854775807) ∧ ∀ k (h : k < S.length) (h' : k < V.length), RlR W V[k] S[k].rules := by
  rcases Go.Deep.open_slice Tryz.underlying23 h with ⟨hcs, _⟩ | ⟨a, l, c, m, n, D, Pl, hcs, _, hl, hm, hmm, _, hc⟩
  · obtain rfl : v = .slice none 0 0 := by simpa using hcs
    exact ⟨[], [], none, 0, rfl, Nat.le_refl _, Nat.zero_le _, rfl, (fun h => absurd h (Nat.lt_irrefl 0)), (fun s h => absurd h List.not_mem_nil), (fun k h => absurd h (Nat.not_lt_zero _))⟩
  · obtain rfl : v = .slice (some a) l c := by simpa using hcs
    have hlm : l ≤ m := by rw [hmm]; split <;> omega
    have hm9 : c ≤ 9223372036854775807 := by unfold maxLen at hm; omega
    have each : ∀ k, k < l → ∃ p : Sc × Value, (∀ j, j < 5 → W.cell? (a.add (k * 5 + j)) = (scC p.1 p.2)[j]?) ∧ p.1.name.size ≤ 9223372036854775807 ∧ p.1.level.size ≤ 9223372036854775807 ∧ RlR W p.2 p.1.rules := by
      intro k hk
      obtain ⟨cs', h1, h2⟩ := hc k (by omega)
      rw [cl41] at h1
      obtain ⟨_, hlen, hcell⟩ := World.cells?_some h1
      obtain ⟨r, rfl, hr⟩ := open_schema h2
      exact ⟨r, fun j hj => by have := hcell j hj; rw [Go.Deep.add_add] at this; exact this, hr⟩
    have : Inhabited (Sc × Value) := ⟨(⟨⟨#[]⟩, ⟨#[]⟩, 0, 0, []⟩, .nilIface)⟩
    obtain ⟨q, hq⟩ := Go.Deep.choose_lt each
    have hlen : ((List.range l).map fun k => (q k).1).length = l := by simp
    have hlenV : ((List.range l).map fun k => (q k).2).length = l := by simp
    refine ⟨(List.range l).map fun k => (q k).1, (List.range l).map fun k => (q k).2, some a, c, by rw [hlen], by omega, hm9, by rw [hlen, hlenV], fun hn => ?_, fun y hy => ?_, fun k hk hk' => ?_⟩
    · rw [hlen] at hn
      obtain ⟨b, off, spot⟩ := a
      have hu0 : W.cell? (Addr.add ⟨b, off, spot⟩ (0 * 5 + 0)) = some (.string (q 0).1.name) := (hq 0 hn).1 0 (by decide)
      have hspot : spot = none := by simpa [Addr.add] using World.cell?_spot hu0
      subst hspot
      rw [Go.WideShapes.add_plain] at hu0
      refine ⟨b, off, rfl, World.block_lt_of_cell? _ _ hu0, fun k hk hk' j hj => ?_⟩
      have e : ((List.range l).map fun k => (q k).1)[k] = (q k).1 := by simp
      have e' : ((List.range l).map fun k => (q k).2)[k] = (q k).2 := by simp
      have := (hq k (by rw [hlen] at hk; exact hk)).1 j hj
      rw [Go.WideShapes.add_plain, ← Nat.add_assoc] at this
      rw [e, e']
      exact this
    · obtain ⟨k, hk, rfl⟩ := List.mem_map.1 hy
      exact ⟨(hq k (List.mem_range.1 hk)).2.1, (hq k (List.mem_range.1 hk)).2.2.1⟩
    · have e : ((List.range l).map fun k => (q k).1)[k] = (q k).1 := by simp
      have e' : ((List.range l).map fun k => (q k).2)[k] = (q k).2 := by simp
      rw [e, e']
      exact (hq k (by rw [hlen] at hk; exact hk)).2.2.2
theorem open_conf {H : Type} {enc : TypeId × Value → H} {W : World} {base : Nat} {sp : Nat → Bool} {held : Bool} {fuel : Nat} {x : DataW H × List MemPlace} {cs : Array Value} (h : DataW.trod enc Tryz.prog W base sp held fuel 25 cs.toList = some x) : ∃ C, CfR W (.agg cs) C := by
  obtain ⟨xs, k, hk, hxy, hcl, hxl, hf⟩ := DataW.trod_struct Tryz.underlying25 h
  rw [cl25] at hcl
  obtain ⟨cs⟩ := cs
  simp only at h hf hcl ⊢
  obtain ⟨v0, v1, v2, v3, v4, v5, rfl⟩ := len6 hcl
  obtain ⟨y0, y1, y2, y3, y4, y5, rfl⟩ := len6 (show xs.length = 6 from hxl)
  · skip
    have g0 := hf 0 _ rfl
    have g1 := hf 1 _ rfl
    have g2 := hf 2 _ rfl
    have g3 := hf 3 _ rfl
    have g4 := hf 4 _ rfl
    have g5 := hf 5 _ rfl
    simp [cl3, cl22, cl23] at g0 g1 g2 g3 g4 g5
    obtain ⟨n0, h0, _, _⟩ := DataW.trod_int Tryz.underlying3 g0
    obtain ⟨n1, h1, _, _⟩ := DataW.trod_int Tryz.underlying3 g1
    obtain ⟨n2, h2, _, _⟩ := DataW.trod_int Tryz.underlying3 g2
    obtain ⟨n3, h3, _, _⟩ := DataW.trod_int Tryz.underlying3 g3
    obtain ⟨L, aL, cL, rfl, l1, l2, l3, l4⟩ := open_levels g4
    obtain ⟨S, V, aS, cS, rfl, s1, s2, s3, s4, s5, s6⟩ := open_schemas g5
    simp at h0 h1 h2 h3
    subst h0 h1 h2 h3
    exact ⟨⟨n0, n1, n2, n3, L, S⟩, ⟨by simp only; omega, by simp only; omega⟩, ⟨l4, s5⟩, aL, cL, aS, cS, V, rfl, l1, s1, l3, s3, s4, s6⟩
end Go.Proofs.YtfollcabppkihaaGreatDoor

namespace Go.Proofs.YtfollcabppkihaaGreatDoor
open Go.Lib

theorem pow_datum : (Rows.laid_internal_strconv_uint64pow10 : DataW Unit) = tabData .u64 pow10Tab := by kernel_rfl

theorem pow_tab {W : World} (h : VarReads Tryz.prog W powName Rows.laid_internal_strconv_uint64pow10) : Tab W := by
  obtain ⟨g, t, cs, fuel, p, hg, ht, hv, hd⟩ := h
  obtain rfl : 1 = g := Option.some.inj ((show Tryz.prog.globalNamed powName = some 1 by kernel_rfl).symm.trans hg)
  obtain rfl : 127 = t := Option.some.inj ((show (Tryz.prog.globals[1]?).map (·.type) = some 127 by kernel_rfl).symm.trans ht)
  rw [pow_datum] at hd
  unfold Tab TabIs
  rw [hv, ← cells_of_tab Tryz.underlying127 Tryz.underlying119 (by kernel_rfl) (by kernel_rfl) hd]

end Go.Proofs.YtfollcabppkihaaGreatDoor
