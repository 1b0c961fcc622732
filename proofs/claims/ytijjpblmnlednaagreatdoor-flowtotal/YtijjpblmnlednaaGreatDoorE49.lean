/-
  'Small' of the reference answers, and a yes says that no list is long, and no name.
-/
import Derived.Test.YtijjpblmnlednaaGreatDoorE20
namespace Go.Proofs.YtijjpblmnlednaaGreatDoor
open Go.RowKit
/-- No name is long. -/
structure Nms (C : Cf) : Prop where
  lv : ∀ l ∈ C.levels, l.name.size ≤ 1000
  sc : ∀ s ∈ C.schemas, s.name.size ≤ 1000 ∧ s.level.size ≤ 1000
structure IsC (C : Cf) (e : Ending) : Prop where
  ex : ∃ b, e = .returned (.bool b) ∧ (b = true → Bnd 80 C ∧ Nms C)
def ScM (s : Sc) : Prop := ScN s ∧ s.name.size ≤ 1000 ∧ s.level.size ≤ 1000
def LvM (l : Lv) : Prop := l.name.size ≤ 1000
theorem nms_of {C : Cf} (h1 : ∀ t (h : t < C.levels.length), LvM C.levels[t]) (h3 : ∀ t (h : t < C.schemas.length), ScM C.schemas[t]) : Nms C :=
  ⟨fun l hl => by obtain ⟨k, hk, rfl⟩ := List.getElem_of_mem hl; exact h1 k hk, fun l hl => by obtain ⟨k, hk, rfl⟩ := List.getElem_of_mem hl; exact (h3 k hk).2⟩

set_option maxRecDepth 20000 in
set_option maxHeartbeats 4000000 in
theorem small_nm (v : Value) (C : Cf) (w : World) (h : CfR w v C) :
    Calls Tryz.prog 5 #[v] w fun e w' => IsC C e ∧ Below w.heap.size w w' := by
  obtain ⟨aL, cL, aS, cS, V, rfl, capL, capS, hL, hV, hS, hR⟩ := h.ex
  have hnm := h.nm
  obtain ⟨nl9, ns9⟩ := h.sz
  clear h
  obtain ⟨x0, x1, x2, x3, L, S⟩ := C
  simp only at capL capS hL hV hS hR hnm nl9 ns9 ⊢
  have AL := alloc_below w (.cells #[.int .i64 x0, .int .i64 x1, .int .i64 x2, .int .i64 x3, .slice aL L.length cL, .slice aS S.length cS] 25)
  have I0 : Hd (Sml w (w.alloc (.cells #[.int .i64 x0, .int .i64 x1, .int .i64 x2, .int .i64 x3, .slice aL L.length cL, .slice aS S.length cS] 25)) w.heap.size x0 x1 x2 x3 aL cL aS cS L S V) := ⟨AL, Blk.new w 25 _, hL.carry AL, hS.carry AL, fun k h1 h2 => (hR k h1 h2).carry AL⟩
  have HM : Hd _ := ⟨And.intro hV hnm⟩
  obtain ⟨n, hn⟩ : ∃ n, n = L.length := ⟨_, rfl⟩
  obtain ⟨m, hm⟩ : ∃ m, m = S.length := ⟨_, rfl⟩
  have HN : Hd (n = L.length ∧ m = S.length) := ⟨hn, hm⟩
  have B0 : Hd (Below w.heap.size w (w.alloc (.cells #[.int .i64 x0, .int .i64 x1, .int .i64 x2, .int .i64 x3, .slice aL n cL, .slice aS m cS] 25))) := ⟨alloc_below w _⟩
  have I1 : Hd (Sml w (w.alloc (.cells #[.int .i64 x0, .int .i64 x1, .int .i64 x2, .int .i64 x3, .slice aL n cL, .slice aS m cS] 25)) w.heap.size x0 x1 x2 x3 aL cL aS cS L S V) := ⟨by rw [hn, hm]; exact I0.out⟩
  rw [← hn, ← hm]
  rw [← hn] at capL nl9
  rw [← hm] at capS ns9
  have N0 := Blk.new w 25 #[.int .i64 x0, .int .i64 x1, .int .i64 x2, .int .i64 x3, .slice aL n cL, .slice aS m cS]
  clear AL I0 hL hS hR hV hnm hn hm
  by_cases h40 : 40 < n
  · clear I1 N0
    go_enter Tryz.func5, Tryz.ntmps5
    go_wp2_with fail
    go_ret
    exact ⟨⟨⟨_, rfl, fun h => nomatch h⟩⟩, B0.out⟩
  by_cases h80 : 80 < m
  · clear I1 N0
    go_enter Tryz.func5, Tryz.ntmps5
    go_wp2_with fail
    go_ret
    exact ⟨⟨⟨_, rfl, fun h => nomatch h⟩⟩, B0.out⟩
  clear B0
  have n40 : n ≤ 40 := by omega
  have m80 : m ≤ 80 := by omega
  clear h40 h80 nl9 ns9
  go_enter Tryz.func5, Tryz.ntmps5
  go_wp2_with fail
  clear N0
  generalize w.alloc _ = w0 at *
  obtain ⟨A, hA⟩ : ∃ A, A = w.heap.size := ⟨_, rfl⟩
  have I2 : Hd (Sml w w0 A x0 x1 x2 x3 aL cL aS cS L S V) := ⟨by rw [hA]; exact I1.out⟩
  rw [← hA]
  clear hA I1
  go_loopw [4] (fun i wr => ∃ k : Nat, k ≤ n ∧ i = .int .i64 k ∧ Hd (Sml w wr A x0 x1 x2 x3 aL cL aS cS L S V) ∧ Hd (∀ t (h : t < L.length), t < k → LvM L[t])) (fun i _ => n - (intOf i).toNat)
  case atStart => exact ⟨0, Nat.zero_le _, rfl, I2, ⟨fun t _ h => absurd h (Nat.not_lt_zero _)⟩⟩
  case round =>
    obtain ⟨k, hk, rfl, hI, hL4⟩ := hrel
    clear I2
    have e1 : wr.cell? ⟨A, 4, none⟩ = some (.slice aL n cL) := by rw [HN.out.1]; exact hI.out.blk.cellv 4 rfl
    by_cases hlt : k < n
    · have hkL : k < L.length := by rw [← HN.out.1]; exact hlt
      obtain ⟨b, off, rfl, hb, hc⟩ := hI.out.lv (by omega)
      have y0 : wr.cell? ⟨b, off + k * 10, none⟩ = some (.string L[k].name) := hc k hkL 0 (by decide)
      have s0 : L[k].name.size ≤ 9223372036854775807 := HM.out.2.1 L[k] (List.getElem_mem hkL)
      have HK : Hd (k < n) := ⟨hlt⟩
      have NXL : Hd (L[k].name.size ≤ 1000 → ∀ t (h : t < L.length), t < k + 1 → LvM L[t]) := ⟨fun hp => next_of (P := LvM) hL4.out hkL hp⟩
      clear hc
      generalize L[k].name = x at *
      clear hkL
      by_cases h1 : 1000 < x.size
      · go_wp2_with fail
        go_ret
        exact ⟨⟨⟨_, rfl, fun h => nomatch h⟩⟩, hI.out.bel⟩
      · have hx : x.size ≤ 1000 := by omega
        go_wp2_with fail
        go_roundw
        case rel => exact ⟨k + 1, HK.out, by go_num, hI, ⟨NXL.out hx⟩⟩
        case measure => have := HK.out; simp [intOf]; omega
    · obtain rfl : k = n := by omega
      obtain ⟨wo, rfl⟩ : ∃ wo : World, wo = wr := ⟨_, rfl⟩
      go_wp2_with fail
      clear e1
      go_loopw [3, 5] (fun q i wr => ∃ (j : Nat) (z : Int), j ≤ m ∧ q = .int .i64 z ∧ i = .int .i64 j ∧ Hd (Sml w wr A x0 x1 x2 x3 aL cL aS cS L S V) ∧ Hd (∀ t (h : t < S.length), t < j → ScM S[t])) (fun _ i _ => m - (intOf i).toNat)
      case atStart => exact ⟨0, 0, Nat.zero_le _, rfl, rfl, hI, ⟨fun t _ h => absurd h (Nat.not_lt_zero _)⟩⟩
      case round =>
        obtain ⟨j, z, hj, rfl, rfl, hU, hS4⟩ := hrel
        clear hI
        have f1 : wr.cell? ⟨A, 5, none⟩ = some (.slice aS m cS) := by rw [HN.out.2]; exact hU.out.blk.cellv 5 rfl
        by_cases hlt : j < m
        · have hjS : j < S.length := by rw [← HN.out.2]; exact hlt
          have hjV : j < V.length := by rw [HM.out.1]; exact hjS
          obtain ⟨b, off, rfl, hb, hc⟩ := hU.out.sc (by omega)
          have y0 : wr.cell? ⟨b, off + j * 5, none⟩ = some (.string S[j].name) := hc j hjS hjV 0 (by decide)
          have y1 : wr.cell? ⟨b, off + j * 5 + 1, none⟩ = some (.string S[j].level) := hc j hjS hjV 1 (by decide)
          have y2 : wr.cell? ⟨b, off + j * 5 + 2, none⟩ = some (.int .i64 S[j].rank) := hc j hjS hjV 2 (by decide)
          have y3 : wr.cell? ⟨b, off + j * 5 + 3, none⟩ = some (.int .i64 S[j].way) := hc j hjS hjV 3 (by decide)
          have y4 : wr.cell? ⟨b, off + j * 5 + 4, none⟩ = some V[j] := hc j hjS hjV 4 (by decide)
          have HRl := hU.out.rl j hjS hjV
          obtain ⟨s0, s1⟩ : S[j].name.size ≤ 9223372036854775807 ∧ S[j].level.size ≤ 9223372036854775807 := HM.out.2.2 S[j] (List.getElem_mem hjS)
          have HJ : Hd (j < m) := ⟨hlt⟩
          have NXS : Hd (ScM S[j] → ∀ t (h : t < S.length), t < j + 1 → ScM S[t]) := ⟨fun hp => next_of (P := ScM) hS4.out hjS hp⟩
          clear hc hS4
          generalize S[j] = s at *
          generalize V[j] = vr at *
          clear hjS hjV
          obtain ⟨q0, q1, q2, q3, rs⟩ := s
          simp only at y0 y1 y2 y3 HRl s0 s1
          obtain ⟨ra, rc, rfl, rn9, -⟩ := id HRl
          obtain ⟨rn, hrn⟩ : ∃ rn, rn = rs.length := ⟨_, rfl⟩
          have AL := alloc_below wr (.cells #[.string q0, .string q1, .int .i64 q2, .int .i64 q3, .slice ra rs.length rc] 53)
          have M0 : Hd (Smr w (wr.alloc (.cells #[.string q0, .string q1, .int .i64 q2, .int .i64 q3, .slice ra rs.length rc] 53)) A x0 x1 x2 x3 aL cL (some ⟨b, off, none⟩) cS L S V wr.heap.size q0 q1 q2 q3 (.slice ra rs.length rc) rs) := ⟨hU.out.grown AL, Blk.new wr 53 _, HRl.carry AL⟩
          rw [← hrn] at y4 rn9 M0
          have HRN : Hd (rn = rs.length) := ⟨hrn⟩
          clear AL HRl hU hrn
          go_upto_region 13 with fail
          generalize wr.alloc _ = w1 at *
          generalize wr.heap.size = g at *
          clear y0 y1 y2 y3 y4
          have d0 : w1.cell? ⟨g, 0, none⟩ = _ := M0.out.bl.cellv 0 rfl
          have d1 : w1.cell? ⟨g, 1, none⟩ = _ := M0.out.bl.cellv 1 rfl
          have d4 : w1.cell? ⟨g, 4, none⟩ = _ := M0.out.bl.cellv 4 rfl
          by_cases h40 : 40 < rn
          · go_wp2_with fail
            go_ret
            exact ⟨⟨⟨_, rfl, fun h => nomatch h⟩⟩, M0.out.sm.bel⟩
          by_cases h1 : 1000 < q0.size
          · go_wp2_with fail
            go_ret
            exact ⟨⟨⟨_, rfl, fun h => nomatch h⟩⟩, M0.out.sm.bel⟩
          by_cases h2 : 1000 < q1.size
          · go_wp2_with fail
            go_ret
            exact ⟨⟨⟨_, rfl, fun h => nomatch h⟩⟩, M0.out.sm.bel⟩
          have rn40 : rn ≤ 40 := by omega
          have HQ : Hd (q0.size ≤ 1000 ∧ q1.size ≤ 1000) := ⟨by omega, by omega⟩
          go_wp2_with fail
          clear d0 d1 d4 rn9 h40 h1 h2 s0 s1 f1
          go_loopw [3, 7] (fun q i wr => ∃ (k : Nat) (z : Int), k ≤ rn ∧ q = .int .i64 z ∧ i = .int .i64 k ∧ Hd (Smr w wr A x0 x1 x2 x3 aL cL (some ⟨b, off, none⟩) cS L S V g q0 q1 q2 q3 (.slice ra rn rc) rs) ∧ Hd (∀ t (h : t < rs.length), t < k → RlN 40 rs[t])) (fun _ i _ => rn - (intOf i).toNat)
          case atStart => exact ⟨0, z, Nat.zero_le _, rfl, rfl, M0, ⟨fun t _ h => absurd h (Nat.not_lt_zero _)⟩⟩
          case round =>
            obtain ⟨k, z, hk, rfl, rfl, hM, hR4⟩ := hrel
            clear M0
            have d4 : wr.cell? ⟨g, 4, none⟩ = _ := hM.out.bl.cellv 4 rfl
            by_cases hlt : k < rn
            · have hkr : k < rs.length := by rw [← HRN.out]; exact hlt
              obtain ⟨a', c', e', -, hrow⟩ := hM.out.ru
              injection e' with w1 w2 w3
              subst w1 w3
              clear w2
              obtain ⟨b2, o2, rfl, hb2, hcs⟩ := hrow (by omega)
              obtain ⟨v0, v1, v2, v3, v4, ⟨z0, z1, z2, z3, z4⟩, hru⟩ := hcs k hkr
              have HK : Hd (k < rn) := ⟨hlt⟩
              obtain ⟨⟨a0, p0, e0, -⟩, ⟨a1, p1, e1, -⟩, ⟨a2, p2, e2, -⟩, ⟨a3, p3, e3, -⟩, ⟨a4, p4, e4, -⟩⟩ := id hru
              have AL := alloc_below wr (.cells #[v0, v1, v2, v3, v4] 50)
              have NB := Blk.new wr 50 #[v0, v1, v2, v3, v4]
              have hM1 : Hd _ := ⟨hM.out.grown AL⟩
              have RU1 := hru.carry AL
              have NXR : Hd (RlN 40 rs[k] → ∀ t (h : t < rs.length), t < k + 1 → RlN 40 rs[t]) := ⟨fun hp => next_of (P := RlN 40) hR4.out hkr hp⟩
              clear hcs hrow hru AL hM hR4
              generalize rs[k] = r at *
              clear hkr
              generalize hn0 : r.users.length = m0 at e0
              generalize hn1 : r.groups.length = m1 at e1
              generalize hn2 : r.verbs.length = m2 at e2
              generalize hn3 : r.resources.length = m3 at e3
              generalize hn4 : r.spaces.length = m4 at e4
              subst e0 e1 e2 e3 e4
              clear hn0 hn1 hn2 hn3 hn4
              go_upto_region 19 with fail
              generalize wr.alloc _ = w2 at *
              generalize wr.heap.size = g2 at *
              clear z0 z1 z2 z3 z4 d4
              have AL := alloc_below w2 (.cells #[.slice a0 m0 p0, .slice a1 m1 p1, .slice a2 m2 p2, .slice a3 m3 p3, .slice a4 m4 p4] 26)
              have hM2 : Hd _ := ⟨hM1.out.grown AL⟩
              have F2 : Hd _ := ⟨Fiv.new RU1⟩
              clear RU1 AL hM1
              have d0 : w2.cell? ⟨g2, 0, none⟩ = _ := NB.cellv 0 rfl
              have d1 : w2.cell? ⟨g2, 1, none⟩ = _ := NB.cellv 1 rfl
              have d2 : w2.cell? ⟨g2, 2, none⟩ = _ := NB.cellv 2 rfl
              have d3 : w2.cell? ⟨g2, 3, none⟩ = _ := NB.cellv 3 rfl
              have d4 : w2.cell? ⟨g2, 4, none⟩ = _ := NB.cellv 4 rfl
              clear NB
              go_wp2_with fail
              clear d0 d1 d2 d3 d4
              generalize w2.alloc _ = w3 at *
              generalize w2.heap.size = g3 at *
              go_loopw [3, 89] (fun q i wr => ∃ (p : Nat) (z : Int), p ≤ 5 ∧ q = .int .i64 z ∧ i = .int .i64 p ∧ Hd (Smr w wr A x0 x1 x2 x3 aL cL (some ⟨b, off, none⟩) cS L S V g q0 q1 q2 q3 (.slice (some ⟨b2, o2, none⟩) rn rc) rs ∧ Fiv wr g3 r) ∧ Hd (∀ t, t < p → (fv r t).length ≤ 40)) (fun _ i _ => 5 - (intOf i).toNat)
              case atStart => exact ⟨0, z, Nat.zero_le _, rfl, rfl, ⟨hM2.out, F2.out⟩, ⟨fun t h => absurd h (Nat.not_lt_zero _)⟩⟩
              case round =>
                obtain ⟨p, z, hp, rfl, rfl, hF, hL4⟩ := hrel
                clear hM2 F2
                by_cases hlt : p < 5
                · obtain ⟨vv, c0, ta, tc, rfl, trow, tcap, t9, tsz⟩ := hF.out.2.2 p hlt
                  have NXL : Hd ((fv r p).length ≤ 40 → ∀ t, t < p + 1 → (fv r t).length ≤ 40) := ⟨fun hp t ht => by
                    rcases Nat.lt_or_eq_of_le (Nat.le_of_lt_succ ht) with h1 | h1
                    · exact hL4.out t h1
                    · subst h1; exact hp⟩
                  clear hL4
                  generalize fv r p = T at *
                  have HP : Hd (p < 5) := ⟨hlt⟩
                  have HT : Hd (RowL wr ta T ∧ ∀ x ∈ T, x.size ≤ 9223372036854775807) := ⟨trow, tsz⟩
                  obtain ⟨tn, htn⟩ : ∃ tn, tn = T.length := ⟨_, rfl⟩
                  rw [← htn] at c0 tcap t9
                  have HTN : Hd (tn = T.length) := ⟨htn⟩
                  clear trow tsz htn
                  by_cases h40 : 40 < tn
                  · go_wp2_with fail
                    go_ret
                    exact ⟨⟨⟨_, rfl, fun h => nomatch h⟩⟩, hF.out.1.sm.bel⟩
                  have tn40 : tn ≤ 40 := by omega
                  obtain ⟨wo, rfl⟩ : ∃ wo : World, wo = wr := ⟨_, rfl⟩
                  go_wp2_with fail
                  clear c0 h40 t9
                  go_loopw [3, 11] (fun q i wr => ∃ (t : Nat) (z : Int), t ≤ tn ∧ q = .int .i64 z ∧ i = .int .i64 t ∧ Hd (Below wo.heap.size wo wr)) (fun _ i _ => tn - (intOf i).toNat)
                  case atStart => exact ⟨0, z, Nat.zero_le _, rfl, rfl, ⟨Below.refl _ _⟩⟩
                  case round =>
                    obtain ⟨t, z, ht, rfl, rfl, hB⟩ := hrel
                    by_cases hlt : t < tn
                    · have htT : t < T.length := by rw [← HTN.out]; exact hlt
                      obtain ⟨b3, o3, rfl, hb3, hc3⟩ := (HT.out.1.carry hB.out) (by omega)
                      have c1 := hc3 t htT
                      rw [gt_eq htT] at c1
                      have s1 := HT.out.2 T[t] (List.getElem_mem htT)
                      have HTT : Hd (t < tn) := ⟨hlt⟩
                      clear hc3
                      generalize T[t] = x at *
                      clear htT
                      by_cases h1 : 1000 < x.size
                      · go_wp2_with fail
                        go_ret
                        exact ⟨⟨⟨_, rfl, fun h => nomatch h⟩⟩, (hF.out.1.sm.grown hB.out).bel⟩
                      · go_wp2_with fail
                        go_roundw
                        case rel => exact ⟨t + 1, _, HTT.out, rfl, by go_num, hB⟩
                        case measure => have := HTT.out; simp [intOf]; omega
                    · obtain rfl : t = tn := by omega
                      go_wp2_with fail
                      go_roundw
                      case rel => exact ⟨p + 1, _, HP.out, rfl, by go_num, ⟨hF.out.1.grown hB.out, hF.out.2.grown hB.out⟩, ⟨NXL.out (by have := HTN.out; omega)⟩⟩
                      case measure => have := HP.out; simp [intOf]; omega
                · obtain rfl : p = 5 := by omega
                  go_wp2_with fail
                  go_roundw
                  case rel => exact ⟨k + 1, _, HK.out, rfl, by go_num, ⟨hF.out.1⟩, ⟨NXR.out (fv_all hL4.out)⟩⟩
                  case measure => have := HK.out; simp [intOf]; omega
            · obtain rfl : k = rn := by omega
              go_wp2_with fail
              go_roundw
              case rel =>
                refine ⟨j + 1, _, HJ.out, rfl, by go_num, ⟨hM.out.sm⟩, ⟨NXS.out ⟨⟨by have := HRN.out; simp only; omega, fun r hr => ?_⟩, HQ.out⟩⟩⟩
                obtain ⟨t, ht, rfl⟩ := List.getElem_of_mem hr
                exact hR4.out t ht (by have := HRN.out; simp only at ht; omega)
              case measure => have := HJ.out; simp [intOf]; omega
        · obtain rfl : j = m := by omega
          have R : Hd (Below w.heap.size w wr) := ⟨hU.out.bel⟩
          clear hU
          go_wp2_with fail
          go_ret
          exact ⟨⟨⟨_, rfl, fun _ => ⟨bnd_of (by have := HN.out.1; simp only; omega) (by have := HN.out.2; simp only; omega) (fun t ht => (hS4.out t ht (by have := HN.out.2; simp only at ht; omega)).1), nms_of (fun t ht => hL4.out t ht (by have := HN.out.1; simp only at ht; omega)) (fun t ht => hS4.out t ht (by have := HN.out.2; simp only at ht; omega))⟩⟩⟩, R.out⟩
end Go.Proofs.YtijjpblmnlednaaGreatDoor
