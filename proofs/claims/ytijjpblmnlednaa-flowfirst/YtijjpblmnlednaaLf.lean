/-
  The walk of 'FlowFirst'. Condition: schemas and request lie in memory.
-/
import Derived.Test.YtijjpblmnlednaaFw
import Derived.Test.YtijjpblmnlednaaLs
import Derived.BigQuiet
namespace Go.Proofs.Ytijjpblmnlednaa
open Go.RowKit

theorem SsR.rows {w : World} {a : Option Addr} {n c : Nat} {S : List Sc} (h : SsR w (.slice a n c) S) : n = S.length ∧ ∃ V, V.length = S.length ∧ ScR w a S V ∧ ∀ k (h : k < S.length) (h' : k < V.length), RlR w V[k] S[k].rules := by
  obtain ⟨a', c', V, e, hl, hV, hS, hR⟩ := h.ex
  injection e with e1 e2 e3
  subst e1
  exact ⟨e2, V, hV, hS, hR⟩
theorem scr_one {w : World} {s : Sc} {v : Value} : ScR (w.alloc (.cells #[.string s.name, .string s.level, .int .i64 s.rank, .int .i64 s.way, v] 46)) (some ⟨w.heap.size, 0, none⟩) [s] [v] := fun _ => by
  have N := Blk.new w 46 #[.string s.name, .string s.level, .int .i64 s.rank, .int .i64 s.way, v]
  refine ⟨w.heap.size, 0, rfl, N.lt, fun k hk hk' j hj => ?_⟩
  obtain rfl : k = 0 := by simp at hk; exact hk
  have := N.cell (0 + 0 * 5 + j)
  rw [this]
  simp [scC]
theorem er_two (o : Option Sc) (h : o = none) : erOf o = 6 := by rw [h]; rfl
theorem er_one (o : Option Sc) (s : Sc) (h : o = some s) : erOf o = 0 := by rw [h]; rfl

set_option maxRecDepth 40000 in
set_option maxHeartbeats 8000000 in
theorem first_law {ag aS aD : Option Addr} {ng cg nS cS nD cD : Nat} (S D : List Sc) (q : Rq) (w : World) (hv : SsR w (.slice aS nS cS) S) (hc : nS ≤ cS) (hN : aS = none → nS = 0 ∧ cS = 0) (hv' : SsR w (.slice aD nD cD) D) (hc' : nD ≤ cD) (hN' : aD = none → nD = 0 ∧ cD = 0) (hq : RqR w (.agg #[.string q.user, .slice ag ng cg, .string q.verb, .string q.resource, .string q.space, .int .i64 q.objects]) q) :
    Calls Try.prog 4 #[.slice aS nS cS, .slice aD nD cD, .agg #[.string q.user, .slice ag ng cg, .string q.verb, .string q.resource, .string q.space, .int .i64 q.objects]] w fun e w' => e = .returned (.bool true) ∧ Below w.heap.size w w' := by
  obtain ⟨w1, hw1⟩ : ∃ w1, w1 = w.alloc (.cells #[.string q.user, .slice ag ng cg, .string q.verb, .string q.resource, .string q.space, .int .i64 q.objects] 25) := ⟨_, rfl⟩
  have B1 : Below w.heap.size w w1 := by rw [hw1]; exact alloc_below _ _
  have N1 : Blk w1 w.heap.size 25 #[.string q.user, .slice ag ng cg, .string q.verb, .string q.resource, .string q.space, .int .i64 q.objects] := by rw [hw1]; exact Blk.new _ _ _
  have HW : Hd (∀ W, Below w1.heap.size w1 W → Blk W w.heap.size 25 #[.string q.user, .slice ag ng cg, .string q.verb, .string q.resource, .string q.space, .int .i64 q.objects] ∧ Below w.heap.size w W ∧ SsR W (.slice aS nS cS) S ∧ SsR W (.slice aD nD cD) D ∧ RqR W (.agg #[.string q.user, .slice ag ng cg, .string q.verb, .string q.resource, .string q.space, .int .i64 q.objects]) q) := ⟨fun W b => by
    have b' := B1.trans (b.mono B1.size)
    exact ⟨N1.kept (Kept.of_below b (fun _ => False)) id, b', hv.carry b', hv'.carry b', hq.carry b'⟩⟩
  have HNM : Hd ((∀ s ∈ S, s.name.size ≤ 9223372036854775807 ∧ s.level.size ≤ 9223372036854775807) ∧ ∀ s ∈ D, s.name.size ≤ 9223372036854775807 ∧ s.level.size ≤ 9223372036854775807) := ⟨hv.nm, hv'.nm⟩
  have HNL : Hd ((aS = none → nS = 0 ∧ cS = 0) ∧ (aD = none → nD = 0 ∧ cD = 0)) := ⟨hN, hN'⟩
  have hnS := hv.rows.1
  have HL : Hd (nS = S.length ∧ nD = D.length) := ⟨hnS, hv'.rows.1⟩
  have hl9 : nS ≤ 9223372036854775807 := by
    obtain ⟨_, _, _, _, h, -⟩ := hv.ex
    omega
  clear N1 B1 hv hv' hq hnS hN hN'
  obtain ⟨ca, cb, cc, cf, hcl, -, -⟩ := clOf_fl (findS S q) q
  obtain ⟨da, db, dc, df, hdl, -, -⟩ := clOf_fl (findS (S ++ D) q) q
  have HC : Hd (∀ W, ∀ v T, SsR W v T → (∃ a n c, v = .slice a n c) → LsR W (.slice ag ng cg) q.groups → (q.user.size ≤ 9223372036854775807 ∧ q.space.size ≤ 9223372036854775807) → Calls Try.prog 10 #[.agg #[.int .i64 0, .int .i64 0, .int .i64 0, .int .i64 0, .slice none 0 0, v, .int .u64 0], .agg #[.string q.user, .slice ag ng cg, .string q.verb, .string q.resource, .string q.space, .int .i64 q.objects]] W fun e w' => e = .returned (.tuple #[.agg (clOf (findS T q) q), .int .i64 (erOf (findS T q))]) ∧ Below W.heap.size W w') := ⟨fun W v T h1 h2 h3 h4 => by
    obtain ⟨a, n, c, rfl⟩ := h2
    exact classify_ok (z0 := 0) (z1 := 0) (z2 := 0) (z3 := 0) (aL := none) (nL := 0) (cL := 0) (d := 0) T q W h1 h3 h4.1 h4.2⟩
  have HQZ : Hd (∀ W, Below w1.heap.size w1 W → LsR W (.slice ag ng cg) q.groups ∧ (q.user.size ≤ 9223372036854775807 ∧ q.space.size ≤ 9223372036854775807)) := ⟨fun W b => by
    obtain ⟨-, -, -, -, h4⟩ := HW.out W b
    exact ⟨rq_groups h4, h4.sz.1, h4.sz.2.2.2⟩⟩
  have HM : Hd (∀ W, Below w1.heap.size w1 W → Calls Try.prog 8 #[.agg #[.int .i64 0, .int .i64 0, .int .i64 0, .int .i64 0, .slice none 0 0, .slice aS nS cS]] W fun e w' => IsC ⟨0, 0, 0, 0, [], S⟩ e ∧ Below W.heap.size W w') := ⟨fun W b => small_nm _ _ W (cf_of (HW.out W b).2.2.1 hc)⟩
  have HMD : Hd (∀ W, Below w1.heap.size w1 W → Calls Try.prog 8 #[.agg #[.int .i64 0, .int .i64 0, .int .i64 0, .int .i64 0, .slice none 0 0, .slice aD nD cD]] W fun e w' => IsC ⟨0, 0, 0, 0, [], D⟩ e ∧ Below W.heap.size W w') := ⟨fun W b => small_nm _ _ W (cf_of (HW.out W b).2.2.2.1 hc')⟩
  have HQ : Hd (∀ W, Below w1.heap.size w1 W → Calls Try.prog 9 #[.agg #[.string q.user, .slice ag ng cg, .string q.verb, .string q.resource, .string q.space, .int .i64 q.objects]] W fun e w' => IsQ q e ∧ Below W.heap.size W w') := ⟨fun W b => smallQ_ok _ q W (HW.out W b).2.2.2.2⟩
  have HX : Hd (∀ W, Below w1.heap.size w1 W → Blk W w.heap.size 25 #[.string q.user, .slice ag ng cg, .string q.verb, .string q.resource, .string q.space, .int .i64 q.objects] ∧ Below w.heap.size w W) := ⟨fun W b => ⟨(HW.out W b).1, (HW.out W b).2.1⟩⟩
  have HSD : Hd (∀ W, Below w1.heap.size w1 W → SsR W (.slice aS nS cS) S ∧ SsR W (.slice aD nD cD) D) := ⟨fun W b => ⟨(HW.out W b).2.2.1, (HW.out W b).2.2.2.1⟩⟩
  clear HW
  have HCL : Hd (clOf (findS S q) q = #[.string ca, .string cb, .string cc, .int .u64 (cf : Nat)] ∧ clOf (findS (S ++ D) q) q = #[.string da, .string db, .string dc, .int .u64 (df : Nat)]) := ⟨hcl, hdl⟩
  clear hcl hdl hc hc'
  have I := awake_ok w1
  go_enter Try.func4, Try.ntmps4
  go_upto_region 1 with fail
  rw [← hw1]
  clear hw1
  obtain ⟨g, hg⟩ : ∃ g, g = w.heap.size := ⟨_, rfl⟩
  rw [← hg]
  have HG : Hd (g = w.heap.size) := ⟨hg⟩
  rw [← hg] at HX
  clear hg
  go_upto_region 3 with (go_at_call 7; refine I.mono ?_; rintro e w2 ⟨rfl, b2⟩)
  clear I
  have B2 : Hd (Below w1.heap.size w1 w2) := ⟨b2⟩
  have M := HM.out w2 b2
  clear b2
  go_wp2_with fail
  refine M.mono ?_
  rintro e w3 ⟨hb3, b3⟩
  obtain ⟨bs, rfl, hbs⟩ := hb3.ex
  clear hb3 M
  have B3 : Hd (Below w1.heap.size w1 w3) := ⟨B2.out.trans (b3.mono B2.out.size)⟩
  clear b3 B2
  cases bs with
  | false =>
    clear hbs
    have Y := HX.out w3 B3.out
    go_wp2_with fail
    go_ret
    exact ⟨rfl, by rw [← HG.out]; exact Y.2⟩
  | true =>
  have LS : Hd (S.length ≤ 80) := ⟨(hbs rfl).1.sc⟩
  clear hbs
  have M := HMD.out w3 B3.out
  go_wp2_with fail
  refine M.mono ?_
  rintro e w4 ⟨hb4, b4⟩
  obtain ⟨bs, rfl, hbs⟩ := hb4.ex
  clear hb4 M
  have B4 : Hd (Below w1.heap.size w1 w4) := ⟨B3.out.trans (b4.mono B3.out.size)⟩
  clear b4 B3
  cases bs with
  | false =>
    clear hbs
    have Y := HX.out w4 B4.out
    go_wp2_with fail
    go_ret
    exact ⟨rfl, by rw [← HG.out]; exact Y.2⟩
  | true =>
  have LD : Hd (D.length ≤ 80) := ⟨(hbs rfl).1.sc⟩
  clear hbs
  have NQ := (HX.out w4 B4.out).1
  have d0 := NQ.cellv (v := .string q.user) 0 rfl
  have d1 := NQ.cellv (v := .slice ag ng cg) 1 rfl
  have d2 := NQ.cellv (v := .string q.verb) 2 rfl
  have d3 := NQ.cellv (v := .string q.resource) 3 rfl
  have d4 := NQ.cellv (v := .string q.space) 4 rfl
  have d5 := NQ.cellv (v := .int .i64 q.objects) 5 rfl
  clear NQ
  have M := HQ.out w4 B4.out
  go_wp2_with fail
  refine M.mono ?_
  rintro e w5 ⟨hb5, b5⟩
  obtain ⟨bs, rfl, -⟩ := hb5.ex
  clear hb5 M d0 d1 d2 d3 d4 d5
  have B5 : Hd (Below w1.heap.size w1 w5) := ⟨B4.out.trans (b5.mono B4.out.size)⟩
  clear b5 B4 HM HMD HQ
  cases bs with
  | false =>
    have Y := HX.out w5 B5.out
    go_wp2_with fail
    go_ret
    exact ⟨rfl, by rw [← HG.out]; exact Y.2⟩
  | true =>
  have NQ := (HX.out w5 B5.out).1
  have d0 := NQ.cellv (v := .string q.user) 0 rfl
  have d1 := NQ.cellv (v := .slice ag ng cg) 1 rfl
  have d2 := NQ.cellv (v := .string q.verb) 2 rfl
  have d3 := NQ.cellv (v := .string q.resource) 3 rfl
  have d4 := NQ.cellv (v := .string q.space) 4 rfl
  have d5 := NQ.cellv (v := .int .i64 q.objects) 5 rfl
  clear NQ
  go_upto_region 5 with fail
  have M := HC.out w5 _ S (HSD.out w5 B5.out).1 ⟨_, _, _, rfl⟩ (HQZ.out w5 B5.out).1 (HQZ.out w5 B5.out).2
  rw [HCL.out.1] at M
  obtain ⟨er, her⟩ : ∃ er, er = erOf (findS S q) := ⟨_, rfl⟩
  rw [← her] at M
  have HER : Hd (er = erOf (findS S q)) := ⟨her⟩
  clear her
  go_wp2_with fail
  refine M.mono ?_
  rintro e w6 ⟨rfl, b6⟩
  clear M d0 d1 d2 d3 d4 d5
  have B6 : Below w1.heap.size w1 w6 := B5.out.trans (b6.mono B5.out.size)
  clear b6 B5
  go_upto_region 6 with fail
  have N7 := Blk.new w6 34 #[.string ca, .string cb, .string cc, .int .u64 (cf : Nat)]
  have B7 : Below w1.heap.size w1 (w6.alloc (.cells #[.string ca, .string cb, .string cc, .int .u64 (cf : Nat)] 34)) := B6.trans ((alloc_below _ _).mono B6.size)
  generalize w6.alloc _ = w7 at *
  generalize w6.heap.size = g7 at *
  have HY : Hd (∀ W, Below w7.heap.size w7 W → Blk W g 25 #[.string q.user, .slice ag ng cg, .string q.verb, .string q.resource, .string q.space, .int .i64 q.objects] ∧ Blk W g7 34 #[.string ca, .string cb, .string cc, .int .u64 (cf : Nat)] ∧ Below w1.heap.size w1 W) := ⟨fun W b => by
    have b' := B7.trans (b.mono B7.size)
    exact ⟨(HX.out W b').1, N7.kept (Kept.of_below b (fun _ => False)) id, b'⟩⟩
  obtain ⟨hS7, hD7⟩ := HSD.out w7 B7
  clear N7 B7 B6
  obtain ⟨-, VS, hVS, hSS, hRS⟩ := hS7.rows
  obtain ⟨-, VD, hVD, hSD, hRD⟩ := hD7.rows
  have F0 := Few.start (Below.refl w7.heap.size w7)
  have A0 := alloc_below w7 (.cells #[] 46)
  have SS1 := hSS.carry A0
  have HSD' : Hd (∀ W, Below w7.heap.size w7 W → ScR W aD D VD) := ⟨fun W b => hSD.carry b⟩
  have HRD : Hd (VD.length = D.length ∧ ∀ k (h : k < D.length) (h' : k < VD.length), RlR w7 VD[k] D[k].rules) := ⟨hVD, hRD⟩
  clear hS7 hD7 hSS hSD A0 hVD hRD
  have L1 : ([] : List Sc).length + S.length ≤ 1000 := by have := LS.out; simp; omega
  have HF1 : Hd (∀ v' w', Few w7 w' v' ([] ++ S) → Few w7 w' v' S) := ⟨fun v' w' h => by rw [List.nil_append] at h; exact h⟩
  go_wp2_with (at_builtin; refine wp_few (w0 := w7) rfl (.tmp 41) (.tmp 42) rfl rfl F0 rfl HL.out.1 HNL.out.1 hVS SS1 hRS L1 ?_)
  intro v8 w8 F1
  have F1 := HF1.out _ _ F1
  clear F0 SS1 L1 HF1 hVS hRS
  have SD1 := HSD'.out w8 F1.bel
  have L2 : S.length + D.length ≤ 1000 := by have := LS.out; have := LD.out; omega
  go_wp2_with (at_builtin; refine wp_few (w0 := w7) rfl (.tmp 43) (.tmp 44) rfl rfl F1 rfl HL.out.2 HNL.out.2 HRD.out.1 SD1 HRD.out.2 L2 ?_)
  intro v9 w9 F2
  have L3 : (S ++ D).length ≤ 1000 := by rw [List.length_append]; exact L2
  have S9 := F2.ss L3 (fun s hs => by rcases List.mem_append.1 hs with h | h; exact HNM.out.1 s h; exact HNM.out.2 s h)
  obtain ⟨am, cm, rfl, -⟩ := F2.shape
  have B9 := (HY.out w9 F2.bel).2.2
  have M := HC.out w9 _ (S ++ D) S9 ⟨_, _, _, rfl⟩ (HQZ.out w9 B9).1 (HQZ.out w9 B9).2
  rw [HCL.out.2] at M
  have HB9 : Hd (Below w7.heap.size w7 w9) := ⟨F2.bel⟩
  clear F1 F2 L2 L3 S9 B9 SD1 HRD HSD'
  generalize (S ++ D).length = nm at *
  obtain ⟨eb, heb⟩ : ∃ eb, eb = erOf (findS (S ++ D) q) := ⟨_, rfl⟩
  rw [← heb] at M
  have HEB : Hd (eb = erOf (findS (S ++ D) q)) := ⟨heb⟩
  clear heb
  go_upto_region 7 with fail
  have NQ := (HY.out w9 HB9.out).1
  have d0 := NQ.cellv (v := .string q.user) 0 rfl
  have d1 := NQ.cellv (v := .slice ag ng cg) 1 rfl
  have d2 := NQ.cellv (v := .string q.verb) 2 rfl
  have d3 := NQ.cellv (v := .string q.resource) 3 rfl
  have d4 := NQ.cellv (v := .string q.space) 4 rfl
  have d5 := NQ.cellv (v := .int .i64 q.objects) 5 rfl
  clear NQ
  go_wp2_with fail
  refine M.mono ?_
  rintro e w10 ⟨rfl, b10⟩
  clear M d0 d1 d2 d3 d4 d5
  have B10 : Below w7.heap.size w7 w10 := HB9.out.trans (b10.mono HB9.out.size)
  clear b10 HB9
  go_upto_region 8 with fail
  have N11 := Blk.new w10 34 #[.string da, .string db, .string dc, .int .u64 (df : Nat)]
  have B11 : Hd (Below w7.heap.size w7 (w10.alloc (.cells #[.string da, .string db, .string dc, .int .u64 (df : Nat)] 34))) := ⟨B10.trans ((alloc_below _ _).mono B10.size)⟩
  generalize w10.alloc _ = w11 at *
  generalize w10.heap.size = g11 at *
  clear B10
  obtain ⟨-, N8, -⟩ := HY.out w11 B11.out
  have p0 := N8.cellv (v := .string ca) 0 rfl
  have p1 := N8.cellv (v := .string cb) 1 rfl
  have p2 := N8.cellv (v := .string cc) 2 rfl
  have p3 := N8.cellv (v := .int .u64 (cf : Nat)) 3 rfl
  have o0 := N11.cellv (v := .string da) 0 rfl
  have o1 := N11.cellv (v := .string db) 1 rfl
  have o2 := N11.cellv (v := .string dc) 2 rfl
  have o3 := N11.cellv (v := .int .u64 (df : Nat)) 3 rfl
  clear N8 N11
  cases hf : findS S q with
  | none =>
    have e6 : er = 6 := by rw [HER.out]; exact er_two _ hf
    have H0 : Hd (fewS S q = []) := ⟨fewS_none hf⟩
    clear hf
    have HE6 : Hd (er = 6) := ⟨e6⟩
    subst e6
    go_upto_region 10 with fail
    go_wp2_with fail
    clear p0 p1 p2 p3 o0 o1 o2 o3
    have HK : Hd (∀ k (hk : k < S.length), ∃ b off, aS = some ⟨b, off, none⟩ ∧ b < w11.heap.size ∧ ∃ ar nr cr, (w11.cell? ⟨b, off + k * 5, none⟩ = some (.string S[k].name) ∧ w11.cell? ⟨b, off + k * 5 + 1, none⟩ = some (.string S[k].level) ∧ w11.cell? ⟨b, off + k * 5 + 2, none⟩ = some (.int .i64 S[k].rank) ∧ w11.cell? ⟨b, off + k * 5 + 3, none⟩ = some (.int .i64 S[k].way) ∧ w11.cell? ⟨b, off + k * 5 + 4, none⟩ = some (.slice ar nr cr)) ∧ RlR w11 (.slice ar nr cr) S[k].rules) := ⟨fun k hk => by
      obtain ⟨a, c, e, -, h⟩ := (HSD.out w11 (HY.out w11 B11.out).2.2).1.at
      obtain ⟨b, off, ea, hb, ar, nr, cr, hcs, hr⟩ := h k hk
      refine ⟨b, off, ?_, hb, ar, nr, cr, hcs, hr⟩
      have : aS = a := by injection e
      rw [this, ea]⟩
    have HZ : Hd (∀ W, Below w11.heap.size w11 W → Blk W g 25 #[.string q.user, .slice ag ng cg, .string q.verb, .string q.resource, .string q.space, .int .i64 q.objects] ∧ Blk W g7 34 #[.string ca, .string cb, .string cc, .int .u64 (cf : Nat)] ∧ Below w1.heap.size w1 W) := ⟨fun W b => HY.out W (B11.out.trans (b.mono B11.out.size))⟩
    clear HY B11 HSD
    go_loopw [12, 13] (fun fv i wr => ∃ k : Nat, k ≤ nS ∧ i = .int .i64 k ∧ Hd (Few w11 wr fv (fewS (S.take k) q))) (fun _ i _ => nS - (intOf i).toNat)
    case atStart => exact ⟨0, Nat.zero_le _, rfl, ⟨Few.nil w11⟩⟩
    case round =>
      obtain ⟨k, hk, rfl, hF⟩ := hrel
      obtain ⟨af, nf, cff, rfl, hnf⟩ : ∃ a n c, u12 = .slice a n c ∧ n = (fewS (S.take k) q).length := by
        obtain ⟨a, c, e, -⟩ := hF.out.shape
        exact ⟨a, _, c, e, rfl⟩
      have HNF : Hd (nf = (fewS (S.take k) q).length) := ⟨hnf⟩
      clear hnf
      by_cases hlt : k < nS
      · have hkS : k < S.length := by rw [← HL.out.1]; exact hlt
        obtain ⟨b, off, rfl, hbl, ar, nr, cr, ⟨k0, k1, k2, k3, k4⟩, hr⟩ := HK.out k hkS
        have bw := hF.out.bel
        have HI : Hd (k < nS) := ⟨hlt⟩
        have HT := few_take (q := q) hkS
        have HTK : Hd (schB S[k].rules q = true → fewS (S.take (k + 1)) q = fewS (S.take k) q ++ [S[k]]) := ⟨fun e => by rw [HT, if_pos e]⟩
        have HTN : Hd (schB S[k].rules q = false → fewS (S.take (k + 1)) q = fewS (S.take k) q) := ⟨fun e => by rw [HT, e]; simp⟩
        have LF : Hd ((fewS (S.take k) q).length + 1 ≤ 1000) := ⟨by have := few_len (S.take k) q; have := LS.out; have h3 : (S.take k).length ≤ S.length := (by rw [List.length_take]; exact Nat.min_le_right _ _); omega⟩
        clear HT HNF
        have HWq : Hd (∀ W, Below wr.heap.size wr W → Below w11.heap.size w11 W ∧ Blk W g 25 #[.string q.user, .slice ag ng cg, .string q.verb, .string q.resource, .string q.space, .int .i64 q.objects] ∧ (W.cell? ⟨b, off + k * 5, none⟩ = some (.string S[k].name) ∧ W.cell? ⟨b, off + k * 5 + 1, none⟩ = some (.string S[k].level) ∧ W.cell? ⟨b, off + k * 5 + 2, none⟩ = some (.int .i64 S[k].rank) ∧ W.cell? ⟨b, off + k * 5 + 3, none⟩ = some (.int .i64 S[k].way) ∧ W.cell? ⟨b, off + k * 5 + 4, none⟩ = some (.slice ar nr cr))) := ⟨fun W bb => by
          have bb' := bw.trans (bb.mono bw.size)
          exact ⟨bb', (HZ.out W bb').1, (bb'.cell (p := ⟨b, off + k * 5, none⟩) hbl).trans k0, (bb'.cell (p := ⟨b, off + k * 5 + 1, none⟩) hbl).trans k1, (bb'.cell (p := ⟨b, off + k * 5 + 2, none⟩) hbl).trans k2, (bb'.cell (p := ⟨b, off + k * 5 + 3, none⟩) hbl).trans k3, (bb'.cell (p := ⟨b, off + k * 5 + 4, none⟩) hbl).trans k4⟩⟩
        have HCC : Hd (∀ W, Below wr.heap.size wr W → Calls Try.prog 12 #[.agg #[.string S[k].name, .string S[k].level, .int .i64 S[k].rank, .int .i64 S[k].way, .slice ar nr cr], .agg #[.string q.user, .slice ag ng cg, .string q.verb, .string q.resource, .string q.space, .int .i64 q.objects]] W fun e w' => e = .returned (.bool (schB S[k].rules q)) ∧ Below W.heap.size W w') := ⟨fun W bb => by
          have bb' := bw.trans (bb.mono bw.size)
          exact schema_ok S[k].rules q W (hr.carry bb') (HQZ.out W (HZ.out W bb').2.2).1⟩
        have HRL : Hd (∀ j (h : j < [S[k]].length) (h' : j < [(.slice ar nr cr : Value)].length), RlR w11 [(.slice ar nr cr : Value)][j] [S[k]][j].rules) := ⟨fun j h h' => by
          obtain rfl : j = 0 := by simp at h; exact h
          exact hr⟩
        have HSO : Hd (∀ W : World, ScR (W.alloc (.cells #[.string S[k].name, .string S[k].level, .int .i64 S[k].rank, .int .i64 S[k].way, .slice ar nr cr] 46)) (some ⟨W.heap.size, 0, none⟩) [S[k]] [.slice ar nr cr]) := ⟨fun W => scr_one⟩
        clear bw k0 k1 k2 k3 k4 hr hbl
        generalize schB S[k].rules q = bk at *
        generalize S[k] = sk at *
        clear hkS
        obtain ⟨y0, y1, y2, y3, rs⟩ := sk
        simp only at HWq HCC HSO HRL
        go_upto_region 14 with fail
        have B0 : Below wr.heap.size wr wr.drew := ⟨rfl, rfl, rfl, Nat.le_refl _, fun _ _ => rfl⟩
        refine AnyG.start (T := fun W => Below wr.heap.size wr W) (U := fun _ => True) (j0 := 100) (by kernel_rfl) ?_
        generalize wr.drew = wd at *
        refine .tq 0 71 B0 ?_; simp only [tkA, tkB, tkC]
        refine .tq 1 72 B0 ?_; simp only [tkA, tkB, tkC]
        refine .tq 2 73 B0 ?_ (hy := fun w hSw => by have h1 := HI.out; go_simp; rfl); simp only [tkA, tkB, tkC]
        refine .tq 3 74 B0 ?_ (hy := fun w hSw => by obtain ⟨s0, s1, s2, s3, s4⟩ := (HWq.out w hSw).2.2; go_simp; rfl); simp only [tkA, tkB, tkC]
        refine .tq 4 75 B0 ?_ (hy := fun w hSw => by have M := (HWq.out w hSw).2.1; have s0 := M.cellv (v := .string q.user) 0 rfl; have s1 := M.cellv (v := .slice ag ng cg) 1 rfl; have s2 := M.cellv (v := .string q.verb) 2 rfl; have s3 := M.cellv (v := .string q.resource) 3 rfl; have s4 := M.cellv (v := .string q.space) 4 rfl; have s5 := M.cellv (v := .int .i64 q.objects) 5 rfl; go_simp; rfl); simp only [tkA, tkB, tkC]
        refine AnyG.ready (rs := [5]) (by kernel_rfl) (by simp) ?_
        refine AllG.cons rfl (fun K hK => ?_) AllG.nil
        go_simp
        refine (HCC.out wd B0).mono ?_
        rintro e w12 ⟨rfl, b1⟩
        have B1 : Below wr.heap.size wr w12 := B0.trans (b1.mono B0.size)
        refine hK.out _ _ ⟨B1, fun _ => trivial⟩ ?_
        clear hK K b1 B0 HCC
        refine AnyG.done (by kernel_rfl) ?_ _
        cases bk with
        | false =>
          have F' : Hd (Few w11 w12 (.slice af nf cff) (fewS (S.take (k + 1)) q)) := ⟨by rw [HTN.out rfl]; exact hF.out.keep B1⟩
          clear HTN HTK HSO HRL
          go_wp2_with fail
          go_roundw
          case rel => exact ⟨k + 1, HI.out, by go_num, F'⟩
          case measure => have := HI.out; simp [intOf]; omega
        | true =>
          have HFT : Hd (∀ v' w', Few w11 w' v' (fewS (S.take k) q ++ [⟨y0, y1, y2, y3, rs⟩]) → Few w11 w' v' (fewS (S.take (k + 1)) q)) := ⟨fun v' w' h => by rw [HTK.out rfl]; exact h⟩
          obtain ⟨-, -, s0, s1, s2, s3, s4⟩ := HWq.out w12 B1
          have FK := (hF.out.keep B1).keep (alloc_below w12 (.cells #[.string y0, .string y1, .int .i64 y2, .int .i64 y3, .slice ar nr cr] 46))
          have SO := HSO.out w12
          clear HTN HTK HWq hF B1 HSO
          go_wp2_with (at_builtin; refine wp_few (w0 := w11) rfl (.tmp 77) (.tmp 82) rfl rfl FK rfl rfl (fun h => by cases h) rfl SO HRL.out LF.out ?_)
          intro v13 w13 F3
          have F' : Hd _ := ⟨HFT.out _ _ F3⟩
          clear F3 HFT FK SO s0 s1 s2 s3 s4
          go_wp2_with fail
          go_roundw
          case rel => exact ⟨k + 1, HI.out, by go_num, F'⟩
          case measure => have := HI.out; simp [intOf]; omega
      · obtain rfl : k = nS := by omega
        have HTT : fewS (S.take k) q = fewS S q := by rw [List.take_of_length_le (by have := HL.out.1; omega)]
        rw [HTT] at hF HNF
        have hl3 : (fewS S q).length ≤ 1000 := by have := few_len S q; have := LS.out; omega
        have S9 := hF.out.ss hl3 (fun s hs => HNM.out.1 s ((List.mem_filter.1 hs).1))
        obtain ⟨NQ, -, B9⟩ := HZ.out wr hF.out.bel
        have M := HC.out wr _ (fewS S q) S9 ⟨_, _, _, rfl⟩ (HQZ.out wr B9).1 (HQZ.out wr B9).2
        rw [findS_few, HCL.out.1, ← HER.out] at M
        have d0 := NQ.cellv (v := .string q.user) 0 rfl
        have d1 := NQ.cellv (v := .slice ag ng cg) 1 rfl
        have d2 := NQ.cellv (v := .string q.verb) 2 rfl
        have d3 := NQ.cellv (v := .string q.resource) 3 rfl
        have d4 := NQ.cellv (v := .string q.space) 4 rfl
        have d5 := NQ.cellv (v := .int .i64 q.objects) 5 rfl
        have BW : Hd (Below w11.heap.size w11 wr) := ⟨hF.out.bel⟩
        clear NQ B9 S9 hl3 HTT hlt
        go_upto_region 16 with fail
        go_wp2_with fail
        refine M.mono ?_
        rintro e w12 ⟨rfl, b12⟩
        clear M d0 d1 d2 d3 d4 d5
        go_upto_region 17 with fail
        have N14 := Blk.new w12 34 #[.string ca, .string cb, .string cc, .int .u64 (cf : Nat)]
        have B14 : Below wr.heap.size wr (w12.alloc (.cells #[.string ca, .string cb, .string cc, .int .u64 (cf : Nat)] 34)) := b12.trans ((alloc_below _ _).mono b12.size)
        generalize w12.alloc _ = w14 at *
        generalize w12.heap.size = g14 at *
        obtain ⟨-, N8, BF⟩ := HZ.out w14 (BW.out.trans (B14.mono BW.out.size))
        have HBF : Hd (Below g w w14) := ⟨(HX.out w14 BF).2⟩
        have p0 := N8.cellv (v := .string ca) 0 rfl
        have p1 := N8.cellv (v := .string cb) 1 rfl
        have p2 := N8.cellv (v := .string cc) 2 rfl
        have p3 := N8.cellv (v := .int .u64 (cf : Nat)) 3 rfl
        have o0 := N14.cellv (v := .string ca) 0 rfl
        have o1 := N14.cellv (v := .string cb) 1 rfl
        have o2 := N14.cellv (v := .string cc) 2 rfl
        have o3 := N14.cellv (v := .int .u64 (cf : Nat)) 3 rfl
        obtain rfl : nf = 0 := by rw [HNF.out, H0.out]; rfl
        clear N8 N14 BF B14 b12 BW HZ HX hF HNF H0 HK HC HQZ HCL HER HEB
        have E6 : ((6 : Int) == 0) = false := rfl
        go_quiet (fail)
        go_wp2_with fail
        all_goals (go_ret; exact ⟨rfl, by rw [← HG.out]; exact ⟨HBF.out.os, HBF.out.tape, HBF.out.output, HBF.out.size, HBF.out.block⟩⟩)
  | some s =>
    have e0 : er = 0 := by rw [HER.out]; exact er_one _ s hf
    have eb0 : eb = 0 := by rw [HEB.out, findS_app hf]; rfl
    have HCB : (#[.string ca, .string cb, .string cc, .int .u64 (cf : Nat)] : Array Value) = #[.string da, .string db, .string dc, .int .u64 (df : Nat)] := by
      have h1 := HCL.out.1
      have h2 := HCL.out.2
      rw [hf] at h1
      rw [findS_app hf] at h2
      rw [← h1, ← h2]
    have HS0 : Hd (ca = s.name ∧ cb = s.level) := ⟨by
      have h1 := HCL.out.1
      rw [hf] at h1
      unfold clOf clA clC at h1
      simp at h1
      exact ⟨h1.1.symm, h1.2.1.symm⟩⟩
    have HFS : Hd (∃ r, fewS S q = s :: r) := ⟨fewS_some hf⟩
    clear hf
    simp at HCB
    obtain ⟨rfl, rfl, rfl, hcf⟩ := HCB
    obtain rfl : cf = df := by omega
    clear hcf
    subst e0 eb0
    go_upto_region 10 with fail
    go_wp2_with fail
    clear p0 p1 p2 p3 o0 o1 o2 o3
    have HK : Hd (∀ k (hk : k < S.length), ∃ b off, aS = some ⟨b, off, none⟩ ∧ b < w11.heap.size ∧ ∃ ar nr cr, (w11.cell? ⟨b, off + k * 5, none⟩ = some (.string S[k].name) ∧ w11.cell? ⟨b, off + k * 5 + 1, none⟩ = some (.string S[k].level) ∧ w11.cell? ⟨b, off + k * 5 + 2, none⟩ = some (.int .i64 S[k].rank) ∧ w11.cell? ⟨b, off + k * 5 + 3, none⟩ = some (.int .i64 S[k].way) ∧ w11.cell? ⟨b, off + k * 5 + 4, none⟩ = some (.slice ar nr cr)) ∧ RlR w11 (.slice ar nr cr) S[k].rules) := ⟨fun k hk => by
      obtain ⟨a, c, e, -, h⟩ := (HSD.out w11 (HY.out w11 B11.out).2.2).1.at
      obtain ⟨b, off, ea, hb, ar, nr, cr, hcs, hr⟩ := h k hk
      refine ⟨b, off, ?_, hb, ar, nr, cr, hcs, hr⟩
      have : aS = a := by injection e
      rw [this, ea]⟩
    have HZ : Hd (∀ W, Below w11.heap.size w11 W → Blk W g 25 #[.string q.user, .slice ag ng cg, .string q.verb, .string q.resource, .string q.space, .int .i64 q.objects] ∧ Blk W g7 34 #[.string ca, .string cb, .string cc, .int .u64 (cf : Nat)] ∧ Below w1.heap.size w1 W) := ⟨fun W b => HY.out W (B11.out.trans (b.mono B11.out.size))⟩
    clear HY B11 HSD
    go_loopw [12, 13] (fun fv i wr => ∃ k : Nat, k ≤ nS ∧ i = .int .i64 k ∧ Hd (Few w11 wr fv (fewS (S.take k) q))) (fun _ i _ => nS - (intOf i).toNat)
    case atStart => exact ⟨0, Nat.zero_le _, rfl, ⟨Few.nil w11⟩⟩
    case round =>
      obtain ⟨k, hk, rfl, hF⟩ := hrel
      obtain ⟨af, nf, cff, rfl, hnf⟩ : ∃ a n c, u12 = .slice a n c ∧ n = (fewS (S.take k) q).length := by
        obtain ⟨a, c, e, -⟩ := hF.out.shape
        exact ⟨a, _, c, e, rfl⟩
      have HNF : Hd (nf = (fewS (S.take k) q).length) := ⟨hnf⟩
      clear hnf
      by_cases hlt : k < nS
      · have hkS : k < S.length := by rw [← HL.out.1]; exact hlt
        obtain ⟨b, off, rfl, hbl, ar, nr, cr, ⟨k0, k1, k2, k3, k4⟩, hr⟩ := HK.out k hkS
        have bw := hF.out.bel
        have HI : Hd (k < nS) := ⟨hlt⟩
        have HT := few_take (q := q) hkS
        have HTK : Hd (schB S[k].rules q = true → fewS (S.take (k + 1)) q = fewS (S.take k) q ++ [S[k]]) := ⟨fun e => by rw [HT, if_pos e]⟩
        have HTN : Hd (schB S[k].rules q = false → fewS (S.take (k + 1)) q = fewS (S.take k) q) := ⟨fun e => by rw [HT, e]; simp⟩
        have LF : Hd ((fewS (S.take k) q).length + 1 ≤ 1000) := ⟨by have := few_len (S.take k) q; have := LS.out; have h3 : (S.take k).length ≤ S.length := (by rw [List.length_take]; exact Nat.min_le_right _ _); omega⟩
        clear HT HNF
        have HWq : Hd (∀ W, Below wr.heap.size wr W → Below w11.heap.size w11 W ∧ Blk W g 25 #[.string q.user, .slice ag ng cg, .string q.verb, .string q.resource, .string q.space, .int .i64 q.objects] ∧ (W.cell? ⟨b, off + k * 5, none⟩ = some (.string S[k].name) ∧ W.cell? ⟨b, off + k * 5 + 1, none⟩ = some (.string S[k].level) ∧ W.cell? ⟨b, off + k * 5 + 2, none⟩ = some (.int .i64 S[k].rank) ∧ W.cell? ⟨b, off + k * 5 + 3, none⟩ = some (.int .i64 S[k].way) ∧ W.cell? ⟨b, off + k * 5 + 4, none⟩ = some (.slice ar nr cr))) := ⟨fun W bb => by
          have bb' := bw.trans (bb.mono bw.size)
          exact ⟨bb', (HZ.out W bb').1, (bb'.cell (p := ⟨b, off + k * 5, none⟩) hbl).trans k0, (bb'.cell (p := ⟨b, off + k * 5 + 1, none⟩) hbl).trans k1, (bb'.cell (p := ⟨b, off + k * 5 + 2, none⟩) hbl).trans k2, (bb'.cell (p := ⟨b, off + k * 5 + 3, none⟩) hbl).trans k3, (bb'.cell (p := ⟨b, off + k * 5 + 4, none⟩) hbl).trans k4⟩⟩
        have HCC : Hd (∀ W, Below wr.heap.size wr W → Calls Try.prog 12 #[.agg #[.string S[k].name, .string S[k].level, .int .i64 S[k].rank, .int .i64 S[k].way, .slice ar nr cr], .agg #[.string q.user, .slice ag ng cg, .string q.verb, .string q.resource, .string q.space, .int .i64 q.objects]] W fun e w' => e = .returned (.bool (schB S[k].rules q)) ∧ Below W.heap.size W w') := ⟨fun W bb => by
          have bb' := bw.trans (bb.mono bw.size)
          exact schema_ok S[k].rules q W (hr.carry bb') (HQZ.out W (HZ.out W bb').2.2).1⟩
        have HRL : Hd (∀ j (h : j < [S[k]].length) (h' : j < [(.slice ar nr cr : Value)].length), RlR w11 [(.slice ar nr cr : Value)][j] [S[k]][j].rules) := ⟨fun j h h' => by
          obtain rfl : j = 0 := by simp at h; exact h
          exact hr⟩
        have HSO : Hd (∀ W : World, ScR (W.alloc (.cells #[.string S[k].name, .string S[k].level, .int .i64 S[k].rank, .int .i64 S[k].way, .slice ar nr cr] 46)) (some ⟨W.heap.size, 0, none⟩) [S[k]] [.slice ar nr cr]) := ⟨fun W => scr_one⟩
        clear bw k0 k1 k2 k3 k4 hr hbl
        generalize schB S[k].rules q = bk at *
        generalize S[k] = sk at *
        clear hkS
        obtain ⟨y0, y1, y2, y3, rs⟩ := sk
        simp only at HWq HCC HSO HRL
        go_upto_region 14 with fail
        have B0 : Below wr.heap.size wr wr.drew := ⟨rfl, rfl, rfl, Nat.le_refl _, fun _ _ => rfl⟩
        refine AnyG.start (T := fun W => Below wr.heap.size wr W) (U := fun _ => True) (j0 := 100) (by kernel_rfl) ?_
        generalize wr.drew = wd at *
        refine .tq 0 71 B0 ?_; simp only [tkA, tkB, tkC]
        refine .tq 1 72 B0 ?_; simp only [tkA, tkB, tkC]
        refine .tq 2 73 B0 ?_ (hy := fun w hSw => by have h1 := HI.out; go_simp; rfl); simp only [tkA, tkB, tkC]
        refine .tq 3 74 B0 ?_ (hy := fun w hSw => by obtain ⟨s0, s1, s2, s3, s4⟩ := (HWq.out w hSw).2.2; go_simp; rfl); simp only [tkA, tkB, tkC]
        refine .tq 4 75 B0 ?_ (hy := fun w hSw => by have M := (HWq.out w hSw).2.1; have s0 := M.cellv (v := .string q.user) 0 rfl; have s1 := M.cellv (v := .slice ag ng cg) 1 rfl; have s2 := M.cellv (v := .string q.verb) 2 rfl; have s3 := M.cellv (v := .string q.resource) 3 rfl; have s4 := M.cellv (v := .string q.space) 4 rfl; have s5 := M.cellv (v := .int .i64 q.objects) 5 rfl; go_simp; rfl); simp only [tkA, tkB, tkC]
        refine AnyG.ready (rs := [5]) (by kernel_rfl) (by simp) ?_
        refine AllG.cons rfl (fun K hK => ?_) AllG.nil
        go_simp
        refine (HCC.out wd B0).mono ?_
        rintro e w12 ⟨rfl, b1⟩
        have B1 : Below wr.heap.size wr w12 := B0.trans (b1.mono B0.size)
        refine hK.out _ _ ⟨B1, fun _ => trivial⟩ ?_
        clear hK K b1 B0 HCC
        refine AnyG.done (by kernel_rfl) ?_ _
        cases bk with
        | false =>
          have F' : Hd (Few w11 w12 (.slice af nf cff) (fewS (S.take (k + 1)) q)) := ⟨by rw [HTN.out rfl]; exact hF.out.keep B1⟩
          clear HTN HTK HSO HRL
          go_wp2_with fail
          go_roundw
          case rel => exact ⟨k + 1, HI.out, by go_num, F'⟩
          case measure => have := HI.out; simp [intOf]; omega
        | true =>
          have HFT : Hd (∀ v' w', Few w11 w' v' (fewS (S.take k) q ++ [⟨y0, y1, y2, y3, rs⟩]) → Few w11 w' v' (fewS (S.take (k + 1)) q)) := ⟨fun v' w' h => by rw [HTK.out rfl]; exact h⟩
          obtain ⟨-, -, s0, s1, s2, s3, s4⟩ := HWq.out w12 B1
          have FK := (hF.out.keep B1).keep (alloc_below w12 (.cells #[.string y0, .string y1, .int .i64 y2, .int .i64 y3, .slice ar nr cr] 46))
          have SO := HSO.out w12
          clear HTN HTK HWq hF B1 HSO
          go_wp2_with (at_builtin; refine wp_few (w0 := w11) rfl (.tmp 77) (.tmp 82) rfl rfl FK rfl rfl (fun h => by cases h) rfl SO HRL.out LF.out ?_)
          intro v13 w13 F3
          have F' : Hd _ := ⟨HFT.out _ _ F3⟩
          clear F3 HFT FK SO s0 s1 s2 s3 s4
          go_wp2_with fail
          go_roundw
          case rel => exact ⟨k + 1, HI.out, by go_num, F'⟩
          case measure => have := HI.out; simp [intOf]; omega
      · obtain rfl : k = nS := by omega
        have HTT : fewS (S.take k) q = fewS S q := by rw [List.take_of_length_le (by have := HL.out.1; omega)]
        rw [HTT] at hF HNF
        have hl3 : (fewS S q).length ≤ 1000 := by have := few_len S q; have := LS.out; omega
        have S9 := hF.out.ss hl3 (fun s hs => HNM.out.1 s ((List.mem_filter.1 hs).1))
        obtain ⟨NQ, -, B9⟩ := HZ.out wr hF.out.bel
        have M := HC.out wr _ (fewS S q) S9 ⟨_, _, _, rfl⟩ (HQZ.out wr B9).1 (HQZ.out wr B9).2
        rw [findS_few, HCL.out.1, ← HER.out] at M
        have d0 := NQ.cellv (v := .string q.user) 0 rfl
        have d1 := NQ.cellv (v := .slice ag ng cg) 1 rfl
        have d2 := NQ.cellv (v := .string q.verb) 2 rfl
        have d3 := NQ.cellv (v := .string q.resource) 3 rfl
        have d4 := NQ.cellv (v := .string q.space) 4 rfl
        have d5 := NQ.cellv (v := .int .i64 q.objects) 5 rfl
        have BW : Hd (Below w11.heap.size w11 wr) := ⟨hF.out.bel⟩
        clear NQ B9 S9 hl3 HTT hlt
        go_upto_region 16 with fail
        go_wp2_with fail
        refine M.mono ?_
        rintro e w12 ⟨rfl, b12⟩
        clear M d0 d1 d2 d3 d4 d5
        go_upto_region 17 with fail
        have N14 := Blk.new w12 34 #[.string ca, .string cb, .string cc, .int .u64 (cf : Nat)]
        have B14 : Below wr.heap.size wr (w12.alloc (.cells #[.string ca, .string cb, .string cc, .int .u64 (cf : Nat)] 34)) := b12.trans ((alloc_below _ _).mono b12.size)
        generalize w12.alloc _ = w14 at *
        generalize w12.heap.size = g14 at *
        obtain ⟨-, N8, BF⟩ := HZ.out w14 (BW.out.trans (B14.mono BW.out.size))
        have HBF : Hd (Below g w w14) := ⟨(HX.out w14 BF).2⟩
        have p0 := N8.cellv (v := .string ca) 0 rfl
        have p1 := N8.cellv (v := .string cb) 1 rfl
        have p2 := N8.cellv (v := .string cc) 2 rfl
        have p3 := N8.cellv (v := .int .u64 (cf : Nat)) 3 rfl
        have o0 := N14.cellv (v := .string ca) 0 rfl
        have o1 := N14.cellv (v := .string cb) 1 rfl
        have o2 := N14.cellv (v := .string cc) 2 rfl
        have o3 := N14.cellv (v := .int .u64 (cf : Nat)) 3 rfl
        obtain ⟨r, hr⟩ := HFS.out
        have S14 := (hF.out.keep B14).ss (by have := few_len S q; have := LS.out; omega) (fun s hs => HNM.out.1 s ((List.mem_filter.1 hs).1))
        rw [hr] at S14
        obtain ⟨a', c', e', -, hat⟩ := S14.at
        obtain ⟨b, off, ea, -, _, _, _, ⟨m0, m1, -, -, -⟩, -⟩ := hat 0 (by simp)
        have e2 : af = some ⟨b, off, none⟩ := by injection e' with e1; rw [e1, ea]
        subst e2
        have m0' : w14.cell? ⟨b, off, none⟩ = some (.string ca) := by rw [HS0.out.1]; simpa using m0
        have m1' : w14.cell? ⟨b, off + 1, none⟩ = some (.string cb) := by rw [HS0.out.2]; simpa using m1
        have hp : 0 < nf := by rw [HNF.out, hr]; simp
        have E1 : ((nf : Int) == 0) = false := by rw [beq_eq_false_iff_ne]; omega
        have E2 : decide ((0 : Int) < (nf : Int)) = true := decide_eq_true (by omega)
        clear N8 N14 BF B14 b12 BW HZ HX hF HNF HK HC HQZ HCL HER HEB S14 hat e' ea m0 m1 hr HFS HS0
        go_quiet (fail)
        go_wp2_with fail
        all_goals (go_ret; exact ⟨rfl, by rw [← HG.out]; exact ⟨HBF.out.os, HBF.out.tape, HBF.out.output, HBF.out.size, HBF.out.block⟩⟩)
end Go.Proofs.Ytijjpblmnlednaa
