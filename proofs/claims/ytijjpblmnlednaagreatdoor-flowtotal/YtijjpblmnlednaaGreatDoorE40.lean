/-
  'Print' of 'print', walked.
-/
import Derived.Test.YtijjpblmnlednaaGreatDoorE38
namespace Go.Proofs.YtijjpblmnlednaaGreatDoor
open Go.RowKit Go.Lib
theorem take_step {α : Type} {L : List α} {k : Nat} (h : k < L.length) : L.take (k + 1) = L.take k ++ [L[k]] := by
  rw [List.take_add_one, List.getElem?_eq_getElem h]
  rfl
theorem Blk.sixP {w : World} {b t : Nat} {v0 v1 v2 v3 v4 v5 : Value} (h : Blk w b t #[v0, v1, v2, v3, v4, v5]) :
    (w.cell? ⟨b, 0, none⟩ = some v0 ∧ w.cell? ⟨b, 1, none⟩ = some v1 ∧ w.cell? ⟨b, 2, none⟩ = some v2 ∧ w.cell? ⟨b, 3, none⟩ = some v3 ∧ w.cell? ⟨b, 4, none⟩ = some v4 ∧ w.cell? ⟨b, 5, none⟩ = some v5)
    ∧ w.frozen? ⟨b, 0, none⟩ = false ∧ w.frozen? ⟨b, 1, none⟩ = false ∧ w.frozen? ⟨b, 2, none⟩ = false ∧ w.frozen? ⟨b, 3, none⟩ = false ∧ w.frozen? ⟨b, 4, none⟩ = false ∧ w.frozen? ⟨b, 5, none⟩ = false :=
  ⟨⟨h.cellv 0 rfl, h.cellv 1 rfl, h.cellv 2 rfl, h.cellv 3 rfl, h.cellv 4 rfl, h.cellv 5 rfl⟩, h.frozen 0, h.frozen 1, h.frozen 2, h.frozen 3, h.frozen 4, h.frozen 5⟩
/-- The lines so far. -/
def lnsL (L : List Lv) (k : Nat) : List ByteArray := ((L.take k).map lvWs).map lnB
theorem lnsL_succ {L : List Lv} {k : Nat} (h : k < L.length) : lnsL L (k + 1) = lnsL L k ++ [lnB (lvWs L[k])] := by
  unfold lnsL
  rw [take_step h, List.map_append, List.map_append]
  rfl
def lnsR (L : List Rl) (k : Nat) : List ByteArray := ((L.take k).map rlWs).map lnB
theorem lnsR_succ {L : List Rl} {k : Nat} (h : k < L.length) : lnsR L (k + 1) = lnsR L k ++ [lnB (rlWs L[k])] := by
  unfold lnsR
  rw [take_step h, List.map_append, List.map_append]
  rfl
def lnsS (L : List Sc) (k : Nat) : List ByteArray := ((L.take k).flatMap scLs).map lnB
theorem lnsS_succ {L : List Sc} {k : Nat} (h : k < L.length) : lnsS L (k + 1) = lnsS L k ++ ([lnB (scWs L[k])] ++ lnsR L[k].rules L[k].rules.length) := by
  unfold lnsS lnsR
  rw [take_step h, List.flatMap_append, List.map_append, List.flatMap_cons, List.flatMap_nil, List.append_nil, List.take_length]
  rfl
theorem lnsL_len (L : List Lv) (k : Nat) : (lnsL L k).length ≤ L.length := by unfold lnsL; rw [List.length_map, List.length_map, List.length_take]; omega
theorem lnsR_len (L : List Rl) (k : Nat) : (lnsR L k).length ≤ L.length := by unfold lnsR; rw [List.length_map, List.length_map, List.length_take]; omega
theorem lnsS_len (L : List Sc) (k : Nat) (h : ∀ s ∈ L, s.rules.length ≤ 8) : (lnsS L k).length ≤ 9 * L.length := by
  unfold lnsS
  rw [List.length_map]
  have := flat_len (L.take k) fun s hs => h s (List.mem_of_mem_take hs)
  rw [List.length_take] at this
  omega
theorem lns_all (C : Cf) : (numWs C).map lnB ++ (lnsL C.levels C.levels.length ++ lnsS C.schemas C.schemas.length) = (cfWs C).map lnB := by
  unfold lnsL lnsS cfWs
  rw [List.take_length, List.take_length, List.map_append, List.map_append]
/-- The box, the lines in memory of one's own. -/
abbrev PO (w wr : World) (cf : Array Value) (v : Value) (L : List ByteArray) : Prop := Blk wr w.heap.size 25 cf ∧ OwnT w.heap.size wr v L ∧ Below w.heap.size w wr
theorem PO.grown {w wr w' : World} {cf : Array Value} {v : Value} {L : List ByteArray} (h : PO w wr cf v L) (b : Below wr.heap.size wr w') : PO w w' cf v L :=
  ⟨h.1.kept (Kept.of_below b (fun _ => False)) id, own_goneP h.2.1 b, h.2.2.trans (b.mono h.2.2.size)⟩

set_option maxRecDepth 20000 in
theorem print_no (v : Value) (C : Cf) (w : World) (h : CfR w v C) (hf : formed C = false) :
    Calls Tryz.prog 16 #[v] w fun e w' => e = .returned (.tuple #[.string ⟨#[]⟩, .int .i64 2]) ∧ Below w.heap.size w w' := by
  obtain ⟨aL, cL, aS, cS, V, e, -⟩ := h.ex
  have FO := fun W (hW : Below w.heap.size w W) => formed_ok v C W (h.carry hW)
  rw [hf] at FO
  subst e
  generalize C.levels.length = nL at *
  generalize C.schemas.length = nS at *
  have AL := alloc_below w (.cells #[.int .i64 C.total, .int .i64 C.period, .int .i64 C.perSeat, .int .i64 C.most, .slice aL nL cL, .slice aS nS cS] 25)
  have NB := Blk.new w 25 #[.int .i64 C.total, .int .i64 C.period, .int .i64 C.perSeat, .int .i64 C.most, .slice aL nL cL, .slice aS nS cS]
  have FO1 := FO _ AL
  clear FO h hf
  go_enter Tryz.func16, Tryz.ntmps16
  go_upto_region 1 with fail
  generalize w.alloc _ = w1 at *
  obtain ⟨⟨y0, y1, y2, y3, y4, y5⟩, -⟩ := NB.sixP
  go_wp2_with (go_at_call 28; refine FO1.mono ?_; rintro e w2 ⟨rfl, b2⟩)
  go_ret2
  exact ⟨rfl, AL.trans (b2.mono AL.size)⟩

set_option maxRecDepth 20000 in
set_option maxHeartbeats 8000000 in
theorem print_yes (v : Value) (C : Cf) (w : World) (h : CfR w v C) (hF : Formed C) (hT : Tab w) :
    Calls Tryz.prog 16 #[v] w fun e w' => e = .returned (.tuple #[.string (if 65536 < (outB C).size then ⟨#[]⟩ else outB C), .int .i64 (if 65536 < (outB C).size then 3 else 0)]) ∧ Below w.heap.size w w' := by
  obtain ⟨aL, cL, aS, cS, V, e, hcL, hcS, hLv, hV, hSc, hRl⟩ := h.ex
  obtain ⟨i0, hi, hz0, hz1, hz2⟩ := info_parts info9
  have FO := fun W (hW : Below w.heap.size w W) => formed_ok v C W (h.carry hW)
  rw [formed_iff.2 hF] at FO
  have NLN := fun W (hW : Below w.heap.size w W) => numLines_ok v C W (h.carry hW) hF (hT.stays hW)
  have H0 : Hd (Tab w ∧ Formed C ∧ LvR w aL C.levels ∧ V.length = C.schemas.length ∧ ScR w aS C.schemas V ∧ ∀ k (h : k < C.schemas.length) (h' : k < V.length), RlR w V[k] C.schemas[k].rules) := ⟨hT, hF, hLv, hV, hSc, hRl⟩
  have HRS : Hd (∀ s ∈ C.schemas, s.rules.length ≤ 8) := ⟨fun s hs => (scOk_iff.1 (hF.sc s hs)).2.2.2.2.1⟩
  have HT : Hd ((numWs C).map lnB ++ (lnsL C.levels C.levels.length ++ lnsS C.schemas C.schemas.length) = (cfWs C).map lnB) := ⟨lns_all C⟩
  have n3 : ((numWs C).map lnB).length ≤ 3 := by rw [List.length_map]; exact num_len C
  have OB := out_bound hF
  have JO := join_out C
  have n16 := hF.nl
  have n32 := hF.ns
  subst e
  clear h hT hF hLv hV hSc hRl hcL hcS
  generalize (numWs C).map lnB = NM at *
  generalize (cfWs C).map lnB = ALL at *
  generalize outB C = OUT at *
  obtain ⟨nL, hnL⟩ : ∃ n, n = C.levels.length := ⟨_, rfl⟩
  obtain ⟨nS, hnS⟩ : ∃ n, n = C.schemas.length := ⟨_, rfl⟩
  have HN : Hd (nL = C.levels.length ∧ nS = C.schemas.length) := ⟨hnL, hnS⟩
  rw [← hnL, ← hnS] at FO NLN
  rw [← hnL, ← hnS]
  rw [← hnL] at n16
  rw [← hnS] at n32
  rw [← hnL, ← hnS] at HT
  clear hnL hnS
  have AL := alloc_below w (.cells #[.int .i64 C.total, .int .i64 C.period, .int .i64 C.perSeat, .int .i64 C.most, .slice aL nL cL, .slice aS nS cS] 25)
  have NB := Blk.new w 25 #[.int .i64 C.total, .int .i64 C.period, .int .i64 C.perSeat, .int .i64 C.most, .slice aL nL cL, .slice aS nS cS]
  have FO1 := FO _ AL
  have HNL : Hd (∀ W, Below w.heap.size w W → _) := ⟨NLN⟩
  clear FO NLN
  go_enter Tryz.func16, Tryz.ntmps16
  go_upto_region 1 with fail
  generalize w.alloc _ = w1 at *
  obtain ⟨⟨y0, y1, y2, y3, y4, y5⟩, -⟩ := NB.sixP
  go_wp2_with fail
  go_at_call 28
  refine FO1.mono ?_
  rintro e w2 ⟨rfl, b2⟩
  have B2 : Below w.heap.size w w2 := AL.trans (b2.mono AL.size)
  have N2 := NB.kept (Kept.of_below b2 (fun _ => False)) id
  have NL2 := HNL.out w2 B2
  clear FO1 b2 AL NB y0 y1 y2 y3 y4 y5 HNL
  obtain ⟨⟨y0, y1, y2, y3, y4, y5⟩, -⟩ := N2.sixP
  go_wp2_with fail
  go_at_call 41
  refine NL2.mono ?_
  rintro e w3 ⟨u3, rfl, o3, b3⟩
  have S3 : Hd (PO w w3 #[.int .i64 C.total, .int .i64 C.period, .int .i64 C.perSeat, .int .i64 C.most, .slice aL nL cL, .slice aS nS cS] u3 (NM ++ lnsL C.levels 0)) := ⟨N2.kept (Kept.of_below b3 (fun _ => False)) id, by
    have e0 : NM ++ lnsL C.levels 0 = NM := by unfold lnsL; simp
    rw [e0]
    exact owns_mono o3 B2.size, B2.trans (b3.mono B2.size)⟩
  clear NL2 o3 b3 B2 N2 y0 y1 y2 y3 y4 y5
  obtain ⟨⟨y0, y1, y2, y3, y4, y5⟩, -⟩ := S3.out.1.sixP
  go_wp2_with fail
  clear y0 y1 y2 y3 y4 y5
  go_loopw [4, 6, 20] (fun v4 p6 i wr => ∃ k : Nat, k ≤ nL ∧ i = .int .i64 k ∧ Hd (PO w wr #[.int .i64 C.total, .int .i64 C.period, .int .i64 C.perSeat, .int .i64 C.most, .slice aL nL cL, .slice aS nS cS] v4 (NM ++ lnsL C.levels k))) (fun _ _ i _ => nL - (intOf i).toNat)
  case atStart => exact ⟨0, Nat.zero_le _, rfl, S3⟩
  case round =>
    obtain ⟨k, hk, rfl, hI⟩ := hrel
    clear S3
    by_cases hlt : k < nL
    · have hkL : k < C.levels.length := by rw [← HN.out.1]; exact hlt
      have HSu := lnsL_succ hkL
      have lok := H0.out.2.1.lv C.levels[k] (List.getElem_mem hkL)
      have LLN := lnsL_len C.levels k
      rw [← HN.out.1] at LLN
      obtain ⟨b, off, rfl, hb, hcs⟩ := (H0.out.2.2.1.carry hI.out.2.2) (by omega)
      have x0 : wr.cell? ⟨b, off + k * 10, none⟩ = some (.string C.levels[k].name) := hcs k hkL 0 (by decide)
      have x1 : wr.cell? ⟨b, off + k * 10 + 1, none⟩ = some (.int .i64 C.levels[k].kind) := hcs k hkL 1 (by decide)
      have x2 : wr.cell? ⟨b, off + k * 10 + 2, none⟩ = some (.int .i64 C.levels[k].shares) := hcs k hkL 2 (by decide)
      have x3 : wr.cell? ⟨b, off + k * 10 + 3, none⟩ = some (.int .i64 C.levels[k].lend) := hcs k hkL 3 (by decide)
      have x4 : wr.cell? ⟨b, off + k * 10 + 4, none⟩ = some (.int .i64 C.levels[k].borrow) := hcs k hkL 4 (by decide)
      have x5 : wr.cell? ⟨b, off + k * 10 + 5, none⟩ = some (.int .i64 C.levels[k].queues) := hcs k hkL 5 (by decide)
      have x6 : wr.cell? ⟨b, off + k * 10 + 6, none⟩ = some (.int .i64 C.levels[k].hand) := hcs k hkL 6 (by decide)
      have x7 : wr.cell? ⟨b, off + k * 10 + 7, none⟩ = some (.int .i64 C.levels[k].length) := hcs k hkL 7 (by decide)
      have x8 : wr.cell? ⟨b, off + k * 10 + 8, none⟩ = some (.int .i64 C.levels[k].wait) := hcs k hkL 8 (by decide)
      have x9 : wr.cell? ⟨b, off + k * 10 + 9, none⟩ = some (.int .i64 C.levels[k].guess) := hcs k hkL 9 (by decide)
      clear hcs
      generalize C.levels[k] = l at *
      have LLO := fun W (hW : Below w.heap.size w W) => levelLine_ok l W lok (H0.out.1.stays hW)
      have AL := alloc_below wr (.cells (lvA l) 45)
      have NB := Blk.new wr 45 (lvA l)
      have S1 : Hd (PO w (wr.alloc (.cells (lvA l) 45)) #[.int .i64 C.total, .int .i64 C.period, .int .i64 C.perSeat, .int .i64 C.most, .slice (some ⟨b, off, none⟩) nL cL, .slice aS nS cS] u4 (NM ++ lnsL C.levels k)) := ⟨hI.out.grown AL⟩
      have LL1 := LLO _ S1.out.2.2
      have HK : Hd (k < nL ∧ NM ++ lnsL C.levels (k + 1) = (NM ++ lnsL C.levels k) ++ [lnB (lvWs l)]) := ⟨hlt, by rw [HSu, List.append_assoc]⟩
      have LEN : (NM ++ lnsL C.levels k).length ≤ 400 := by rw [List.length_append]; omega
      clear LLO HSu lok AL hkL hI LLN
      generalize lnB (lvWs l) = x at *
      generalize hLL : NM ++ lnsL C.levels k = LL at *
      clear hLL
      unfold lvA at NB S1 LL1
      have i1 : (k : Int) < (nL : Int) := by omega
      go_upto_region 7 with fail
      generalize wr.alloc _ = w4 at *
      generalize wr.heap.size = g at *
      clear x0 x1 x2 x3 x4 x5 x6 x7 x8 x9
      have d0 := NB.cellv 0 rfl
      have d1 := NB.cellv 1 rfl
      have d2 := NB.cellv 2 rfl
      have d3 := NB.cellv 3 rfl
      have d4 := NB.cellv 4 rfl
      have d5 := NB.cellv 5 rfl
      have d6 := NB.cellv 6 rfl
      have d7 := NB.cellv 7 rfl
      have d8 := NB.cellv 8 rfl
      have d9 := NB.cellv 9 rfl
      simp at d0 d1 d2 d3 d4 d5 d6 d7 d8 d9
      clear NB
      go_wp2_with fail
      go_at_call 42
      refine LL1.mono ?_
      rintro e w5 ⟨rfl, b5⟩
      have S : Hd (PO w w5 #[.int .i64 C.total, .int .i64 C.period, .int .i64 C.perSeat, .int .i64 C.most, .slice (some ⟨b, off, none⟩) nL cL, .slice aS nS cS] u4 LL) := ⟨S1.out.grown b5⟩
      have sz := S.out.2.2.size
      clear LL1 S1 b5 d0 d1 d2 d3 d4 d5 d6 d7 d8 d9
      go_wp2_with (at_builtin; refine wpList_append_own _ rfl _ _ 26 rfl w.heap.size 9 i0 (.string ByteArray.empty) 1 16 Tryz.underlying26 hi hz0 hz1 hz2 rfl (by decide) _ _ _ rfl (S.out.2.1.alloc _) ⟨w5.heap.size, 0, none⟩ 1 1 [.string x] rfl rfl (one_newT _ _) (one_cellT _) (by unfold maxLen; omega) (by omega) (by simp; omega) ?_; intro vd wd hown hgrow _; have P : Hd (Blk wd w.heap.size 25 #[.int .i64 C.total, .int .i64 C.period, .int .i64 C.perSeat, .int .i64 C.most, .slice (some ⟨b, off, none⟩) nL cL, .slice aS nS cS] ∧ OwnT w.heap.size wd vd (LL ++ [x]) ∧ Below w.heap.size w wd) := ⟨(S.out.1.kept (Kept.of_below (alloc_below _ _) (fun _ => False)) id).kept (Kept.of_grown (S := fun k => Value.ownBlock u4 = some k) hgrow (fun k e => e)) (fun e => own_neP S.out.1 S.out.2.1 (by decide) e), OwnT.put hown, (S.out.2.2.alloc sz _).grown hgrow (by simp; omega) (fun j hj => (S.out.2.1.lt j hj).1)⟩)
      have P' : Hd (PO w wd #[.int .i64 C.total, .int .i64 C.period, .int .i64 C.perSeat, .int .i64 C.most, .slice (some ⟨b, off, none⟩) nL cL, .slice aS nS cS] vd (NM ++ lnsL C.levels (k + 1))) := ⟨by rw [HK.out.2]; exact P.out⟩
      clear P hown hgrow S sz
      go_roundw
      case rel =>
        first
          | exact ⟨k + 1, HK.out.1, by go_num, P'⟩
          | ((repeat apply Exists.intro); exact ⟨⟨k + 1, HK.out.1, by go_num, P'⟩, rfl⟩)
      case measure => have := HK.out.1; simp [intOf]; omega
    · obtain rfl : k = nL := by omega
      have e1 := HN.out.1
      obtain ⟨PRE, hPRE⟩ : ∃ P, P = NM ++ lnsL C.levels k := ⟨_, rfl⟩
      have HP : Hd (PRE ++ lnsS C.schemas nS = ALL ∧ PRE.length ≤ 19) := ⟨by rw [hPRE, List.append_assoc]; exact HT.out, by rw [hPRE, List.length_append]; have := lnsL_len C.levels k; omega⟩
      rw [← hPRE] at hI
      have S6 : Hd (PO w wr #[.int .i64 C.total, .int .i64 C.period, .int .i64 C.perSeat, .int .i64 C.most, .slice aL k cL, .slice aS nS cS] u4 (PRE ++ lnsS C.schemas 0)) := ⟨by
        have e0 : PRE ++ lnsS C.schemas 0 = PRE := by unfold lnsS; simp
        rw [e0]
        exact hI.out⟩
      clear hPRE HT hI e1
      obtain ⟨⟨y0, y1, y2, y3, y4, y5⟩, -⟩ := S6.out.1.sixP
      go_wp2_with fail
      clear y0 y1 y2 y3 y4 y5
      go_loopw [4, 8, 33] (fun v4 p8 i wr => ∃ q : Nat, q ≤ nS ∧ i = .int .i64 q ∧ Hd (PO w wr #[.int .i64 C.total, .int .i64 C.period, .int .i64 C.perSeat, .int .i64 C.most, .slice aL k cL, .slice aS nS cS] v4 (PRE ++ lnsS C.schemas q))) (fun _ _ i _ => nS - (intOf i).toNat)
      case atStart => exact ⟨0, Nat.zero_le _, rfl, S6⟩
      case round =>
        obtain ⟨q, hq, rfl, hJ⟩ := hrel
        clear S6
        by_cases hlt2 : q < nS
        · have hqS : q < C.schemas.length := by rw [← HN.out.2]; exact hlt2
          have hqV : q < V.length := by rw [H0.out.2.2.2.1]; exact hqS
          have HSu := lnsS_succ hqS
          have sok := H0.out.2.1.sc C.schemas[q] (List.getElem_mem hqS)
          have hr8 := HRS.out C.schemas[q] (List.getElem_mem hqS)
          have HRl : Hd (RlR w V[q] C.schemas[q].rules) := ⟨H0.out.2.2.2.2.2 q hqS hqV⟩
          have LSN := lnsS_len C.schemas q HRS.out
          rw [← HN.out.2] at LSN
          obtain ⟨b, off, rfl, hb, hcs⟩ := (H0.out.2.2.2.2.1.carry hJ.out.2.2) (by omega)
          have x0 : wr.cell? ⟨b, off + q * 5, none⟩ = some (.string C.schemas[q].name) := hcs q hqS hqV 0 (by decide)
          have x1 : wr.cell? ⟨b, off + q * 5 + 1, none⟩ = some (.string C.schemas[q].level) := hcs q hqS hqV 1 (by decide)
          have x2 : wr.cell? ⟨b, off + q * 5 + 2, none⟩ = some (.int .i64 C.schemas[q].rank) := hcs q hqS hqV 2 (by decide)
          have x3 : wr.cell? ⟨b, off + q * 5 + 3, none⟩ = some (.int .i64 C.schemas[q].way) := hcs q hqS hqV 3 (by decide)
          have x4 : wr.cell? ⟨b, off + q * 5 + 4, none⟩ = some V[q] := hcs q hqS hqV 4 (by decide)
          clear hcs
          generalize C.schemas[q] = s at *
          generalize V[q] = vv at *
          obtain ⟨ra, rc, eV, hrl, -⟩ := id HRl.out
          obtain ⟨rn, hrn⟩ : ∃ rn, rn = s.rules.length := ⟨_, rfl⟩
          rw [← hrn] at eV hr8
          subst eV
          have SLO := fun W (hW : Below w.heap.size w W) => schemaLine_ok s ra rn rc W sok (H0.out.1.stays hW)
          have AL := alloc_below wr (.cells #[.string s.name, .string s.level, .int .i64 s.rank, .int .i64 s.way, .slice ra rn rc] 53)
          have NB := Blk.new wr 53 #[.string s.name, .string s.level, .int .i64 s.rank, .int .i64 s.way, .slice ra rn rc]
          have S1 : Hd (PO w (wr.alloc (.cells #[.string s.name, .string s.level, .int .i64 s.rank, .int .i64 s.way, .slice ra rn rc] 53)) #[.int .i64 C.total, .int .i64 C.period, .int .i64 C.perSeat, .int .i64 C.most, .slice aL k cL, .slice (some ⟨b, off, none⟩) nS cS] u4 (PRE ++ lnsS C.schemas q)) := ⟨hJ.out.grown AL⟩
          have LL1 := SLO _ S1.out.2.2
          have HK : Hd (q < nS ∧ PRE ++ lnsS C.schemas (q + 1) = ((PRE ++ lnsS C.schemas q) ++ [lnB (scWs s)]) ++ lnsR s.rules rn) := ⟨hlt2, by rw [HSu, hrn]; simp [List.append_assoc]⟩
          have HRN : Hd (rn = s.rules.length) := ⟨hrn⟩
          have LEN : (PRE ++ lnsS C.schemas q).length ≤ 400 := by rw [List.length_append]; have := HP.out.2; omega
          clear SLO HSu sok AL hqS hqV hJ LSN hrn hrl
          generalize lnB (scWs s) = x at *
          generalize hLL : PRE ++ lnsS C.schemas q = LL at *
          clear hLL
          have i1 : (q : Int) < (nS : Int) := by omega
          go_upto_region 12 with fail
          generalize wr.alloc _ = w4 at *
          generalize wr.heap.size = g at *
          clear x0 x1 x2 x3 x4
          have d0 := NB.cellv 0 rfl
          have d1 := NB.cellv 1 rfl
          have d2 := NB.cellv 2 rfl
          have d3 := NB.cellv 3 rfl
          have d4 := NB.cellv 4 rfl
          simp at d0 d1 d2 d3 d4
          go_wp2_with fail
          go_at_call 43
          refine LL1.mono ?_
          rintro e w5 ⟨rfl, b5⟩
          have S : Hd (PO w w5 #[.int .i64 C.total, .int .i64 C.period, .int .i64 C.perSeat, .int .i64 C.most, .slice aL k cL, .slice (some ⟨b, off, none⟩) nS cS] u4 LL) := ⟨S1.out.grown b5⟩
          have NB5 := NB.kept (Kept.of_below b5 (fun _ => False)) id
          have sz := S.out.2.2.size
          clear LL1 S1 b5 d0 d1 d2 d3 d4 NB
          go_wp2_with (at_builtin; refine wpList_append_own _ rfl _ _ 26 rfl w.heap.size 9 i0 (.string ByteArray.empty) 1 16 Tryz.underlying26 hi hz0 hz1 hz2 rfl (by decide) _ _ _ rfl (S.out.2.1.alloc _) ⟨w5.heap.size, 0, none⟩ 1 1 [.string x] rfl rfl (one_newT _ _) (one_cellT _) (by unfold maxLen; omega) (by omega) (by simp; omega) ?_; intro vd wd hown hgrow _; have P : Hd (Blk wd w.heap.size 25 #[.int .i64 C.total, .int .i64 C.period, .int .i64 C.perSeat, .int .i64 C.most, .slice aL k cL, .slice (some ⟨b, off, none⟩) nS cS] ∧ OwnT w.heap.size wd vd (LL ++ [x]) ∧ Below w.heap.size w wd) := ⟨(S.out.1.kept (Kept.of_below (alloc_below _ _) (fun _ => False)) id).kept (Kept.of_grown (S := fun k => Value.ownBlock u4 = some k) hgrow (fun k e => e)) (fun e => own_neP S.out.1 S.out.2.1 (by decide) e), OwnT.put hown, (S.out.2.2.alloc sz _).grown hgrow (by simp; omega) (fun j hj => (S.out.2.1.lt j hj).1)⟩; have NB6 := (NB5.kept (Kept.of_below (alloc_below _ _) (fun _ => False)) id).kept (Kept.of_grown (S := fun k => Value.ownBlock u4 = some k) hgrow (fun k e => e)) (fun e => own_neP NB5 S.out.2.1 (by decide) e); have z4 := NB6.cellv (v := .slice ra rn rc) 4 rfl)
          have S7 : Hd (PO w wd #[.int .i64 C.total, .int .i64 C.period, .int .i64 C.perSeat, .int .i64 C.most, .slice aL k cL, .slice (some ⟨b, off, none⟩) nS cS] vd ((LL ++ [x]) ++ lnsR s.rules 0)) := ⟨by
            have e0 : (LL ++ [x]) ++ lnsR s.rules 0 = LL ++ [x] := by unfold lnsR; simp
            rw [e0]
            exact P.out⟩
          have LEN2 : (LL ++ [x]).length ≤ 401 := by rw [List.length_append]; simp; omega
          clear P hown hgrow S sz NB5 NB6 z4 LEN
          generalize LL ++ [x] = LM0 at *
          go_loopw [4, 10, 45] (fun v4 p10 i wr => ∃ j : Nat, j ≤ rn ∧ i = .int .i64 j ∧ Hd (PO w wr #[.int .i64 C.total, .int .i64 C.period, .int .i64 C.perSeat, .int .i64 C.most, .slice aL k cL, .slice (some ⟨b, off, none⟩) nS cS] v4 (LM0 ++ lnsR s.rules j))) (fun _ _ i _ => rn - (intOf i).toNat)
          case atStart => exact ⟨0, Nat.zero_le _, rfl, S7⟩
          case round =>
            obtain ⟨j, hj, rfl, hM⟩ := hrel
            clear S7
            by_cases hlt3 : j < rn
            · have hjR : j < s.rules.length := by rw [← HRN.out]; exact hlt3
              have HSu := lnsR_succ hjR
              have LRN := lnsR_len s.rules j
              rw [← HRN.out] at LRN
              obtain ⟨ra', rc', e', -, hrow⟩ := HRl.out.carry hM.out.2.2
              injection e' with e1 e2 e3
              subst e1 e3
              clear e2
              obtain ⟨b3, off3, rfl, hb3, hcs⟩ := hrow (by omega)
              obtain ⟨v0, v1, v2, v3, v4, ⟨x0, x1, x2, x3, x4⟩, hru⟩ := hcs j hjR
              obtain ⟨⟨q0, p0, e0, -⟩, ⟨q1, p1, e1, -⟩, ⟨q2, p2, e2, -⟩, ⟨q3, p3, e3, -⟩, ⟨q4, p4, e4, -⟩⟩ := id hru
              have AL := alloc_below wr (.cells #[v0, v1, v2, v3, v4] 50)
              have NB := Blk.new wr 50 #[v0, v1, v2, v3, v4]
              have S1 : Hd (PO w (wr.alloc (.cells #[v0, v1, v2, v3, v4] 50)) #[.int .i64 C.total, .int .i64 C.period, .int .i64 C.perSeat, .int .i64 C.most, .slice aL k cL, .slice (some ⟨b, off, none⟩) nS cS] u4 (LM0 ++ lnsR s.rules j)) := ⟨hM.out.grown AL⟩
              have LL1 := ruleLine_ok v0 v1 v2 v3 v4 s.rules[j] _ (hru.carry AL)
              have HK3 : Hd (j < rn ∧ LM0 ++ lnsR s.rules (j + 1) = (LM0 ++ lnsR s.rules j) ++ [lnB (rlWs s.rules[j])]) := ⟨hlt3, by rw [HSu, List.append_assoc]⟩
              have LEN : (LM0 ++ lnsR s.rules j).length ≤ 500 := by rw [List.length_append]; omega
              clear hcs hrow hru AL HSu hM LRN
              generalize s.rules[j] = r at *
              clear hjR
              generalize lnB (rlWs r) = x at *
              generalize hLL : LM0 ++ lnsR s.rules j = LM at *
              clear hLL
              generalize hn0 : r.users.length = m0 at e0
              generalize hn1 : r.groups.length = m1 at e1
              generalize hn2 : r.verbs.length = m2 at e2
              generalize hn3 : r.resources.length = m3 at e3
              generalize hn4 : r.spaces.length = m4 at e4
              subst e0 e1 e2 e3 e4
              clear hn0 hn1 hn2 hn3 hn4
              have i3 : (j : Int) < (rn : Int) := by omega
              go_upto_region 16 with fail
              generalize wr.alloc _ = w6 at *
              generalize wr.heap.size = g6 at *
              clear x0 x1 x2 x3 x4
              have d0 := NB.cellv 0 rfl
              have d1 := NB.cellv 1 rfl
              have d2 := NB.cellv 2 rfl
              have d3 := NB.cellv 3 rfl
              have d4 := NB.cellv 4 rfl
              simp at d0 d1 d2 d3 d4
              clear NB
              go_wp2_with fail
              go_at_call 44
              refine LL1.mono ?_
              rintro e w7 ⟨rfl, b7⟩
              have S : Hd (PO w w7 #[.int .i64 C.total, .int .i64 C.period, .int .i64 C.perSeat, .int .i64 C.most, .slice aL k cL, .slice (some ⟨b, off, none⟩) nS cS] u4 LM) := ⟨S1.out.grown b7⟩
              have sz := S.out.2.2.size
              clear LL1 S1 b7 d0 d1 d2 d3 d4
              go_wp2_with (at_builtin; refine wpList_append_own _ rfl _ _ 26 rfl w.heap.size 9 i0 (.string ByteArray.empty) 1 16 Tryz.underlying26 hi hz0 hz1 hz2 rfl (by decide) _ _ _ rfl (S.out.2.1.alloc _) ⟨w7.heap.size, 0, none⟩ 1 1 [.string x] rfl rfl (one_newT _ _) (one_cellT _) (by unfold maxLen; omega) (by omega) (by simp; omega) ?_; intro vd wd hown hgrow _; have P : Hd (Blk wd w.heap.size 25 #[.int .i64 C.total, .int .i64 C.period, .int .i64 C.perSeat, .int .i64 C.most, .slice aL k cL, .slice (some ⟨b, off, none⟩) nS cS] ∧ OwnT w.heap.size wd vd (LM ++ [x]) ∧ Below w.heap.size w wd) := ⟨(S.out.1.kept (Kept.of_below (alloc_below _ _) (fun _ => False)) id).kept (Kept.of_grown (S := fun k => Value.ownBlock u4 = some k) hgrow (fun k e => e)) (fun e => own_neP S.out.1 S.out.2.1 (by decide) e), OwnT.put hown, (S.out.2.2.alloc sz _).grown hgrow (by simp; omega) (fun j hj => (S.out.2.1.lt j hj).1)⟩)
              have P' : Hd (PO w wd #[.int .i64 C.total, .int .i64 C.period, .int .i64 C.perSeat, .int .i64 C.most, .slice aL k cL, .slice (some ⟨b, off, none⟩) nS cS] vd (LM0 ++ lnsR s.rules (j + 1))) := ⟨by rw [HK3.out.2]; exact P.out⟩
              clear P hown hgrow S sz
              go_roundw
              case rel =>
                first
                  | exact ⟨j + 1, HK3.out.1, by go_num, P'⟩
                  | ((repeat apply Exists.intro); exact ⟨⟨j + 1, HK3.out.1, by go_num, P'⟩, rfl⟩)
              case measure => have := HK3.out.1; simp [intOf]; omega
            · obtain rfl : j = rn := by omega
              have P' : Hd (PO w wr #[.int .i64 C.total, .int .i64 C.period, .int .i64 C.perSeat, .int .i64 C.most, .slice aL k cL, .slice (some ⟨b, off, none⟩) nS cS] u4 (PRE ++ lnsS C.schemas (q + 1))) := ⟨by rw [HK.out.2]; exact hM.out⟩
              clear hM
              go_wp2_with fail
              go_roundw
              case rel =>
                first
                  | exact ⟨q + 1, HK.out.1, by go_num, P'⟩
                  | ((repeat apply Exists.intro); exact ⟨⟨q + 1, HK.out.1, by go_num, P'⟩, rfl⟩)
              case measure => have := HK.out.1; simp [intOf]; omega
        · obtain rfl : q = nS := by omega
          have O9 := hJ.out.2.1
          rw [HP.out.1] at O9
          obtain ⟨a9, c9, rfl, r9, k9⟩ := O9.shape2P
          have J : Calls Tryz.prog 45 #[.slice a9 ALL.length c9, .string ⟨#[]⟩] wr fun e w' => e = .returned (.string OUT) ∧ Below wr.heap.size wr w' := by
            by_cases hA : ALL = []
            · rw [hA] at JO ⊢
              rw [← JO]
              exact sjoin_none [] a9 c9 wr
            · rw [← JO]
              refine sjoin_any [] a9 c9 ALL wr r9 k9 ?_ hA ?_
              · have h1 := HP.out.1
                have h2 := lnsS_len C.schemas q HRS.out
                have h3 := HN.out.2
                have h4 := HP.out.2
                rw [← h1, List.length_append]
                omega
              · rw [← JO, mk_size] at OB
                omega
          have B9 : Hd (Below w.heap.size w wr) := ⟨hJ.out.2.2⟩
          clear hJ O9 r9 k9 JO HP
          generalize ALL.length = nA at *
          go_wp2_with fail
          go_at_call 45
          refine J.mono ?_
          rintro e w9 ⟨rfl, b9⟩
          by_cases hbig : 65536 < OUT.size
          · go_wp2_with fail
            go_ret2
            exact ⟨(by first | rfl | (rw [if_pos hbig, if_pos hbig]; rfl) | simp [hbig]), B9.out.trans (b9.mono B9.out.size)⟩
          · go_wp2_with fail
            go_ret2
            exact ⟨(by first | rfl | (rw [if_neg hbig, if_neg hbig]; rfl) | simp [hbig]), B9.out.trans (b9.mono B9.out.size)⟩

theorem print_ok (v : Value) (C : Cf) (w : World) (h : CfR w v C) (hT : Tab w) :
    Calls Tryz.prog 16 #[v] w fun e w' => e = .returned (.tuple #[.string (printS C), .int .i64 (printE C)]) ∧ Below w.heap.size w w' := by
  cases hf : formed C with
  | false =>
    have e1 : printE C = 2 := by unfold printE; rw [hf]; rfl
    have e2 : printS C = ⟨#[]⟩ := by unfold printS; rw [e1]; rfl
    rw [e1, e2]
    exact print_no v C w h hf
  | true =>
    have e1 : printE C = if 65536 < (outB C).size then 3 else 0 := by unfold printE; rw [hf]; rfl
    have e2 : printS C = if 65536 < (outB C).size then ⟨#[]⟩ else outB C := by
      unfold printS
      rw [e1]
      by_cases hb : 65536 < (outB C).size
      · rw [if_pos hb, if_pos hb, if_neg (by decide)]
      · rw [if_neg hb, if_neg hb, if_pos rfl]
    rw [e1, e2]
    exact print_yes v C w h (formed_iff.1 hf) hT
end Go.Proofs.YtijjpblmnlednaaGreatDoor
