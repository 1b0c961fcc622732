/-
  What the functions of 'rules' that look at one level, one rule, one schema answer. Condition: what is read lies in memory.
  What the functions of 'rules' that look at rules and schemas, and at what lacks, answer. Condition: what is read lies in memory.
-/
import Derived.Test.YthkdbphgiobcdaaGreatDoorB28
import Derived.Test.YthkdbphgiobcdaaGreatDoorB15
namespace Go.Proofs.YthkdbphgiobcdaaGreatDoor
open Go.RowKit

theorem lit_yes {x : ByteArray} {a : Array UInt8} (h : x = ⟨a⟩) : (x.toList == a.toList) = true := by subst h; rw [ByteArray.toList_eq]; simp
theorem lit_no {x : ByteArray} {a : Array UInt8} (h : x ≠ ⟨a⟩) : (x.toList == a.toList) = false := by
  have := str_ne h
  rw [ByteArray.toList_eq (⟨a⟩ : ByteArray)] at this
  exact this
theorem lvText_ok (x : ByteArray) (w : World) (hx : x.size ≤ 9223372036854775000) : Calls Tryz.prog 45 #[.string x] w fun e w' => e = .returned (.string (lvT x)) ∧ w' = w := by
  have hz : (⟨#[108, 101, 118, 101, 108, 32]⟩ : ByteArray).size = 6 := rfl
  unfold lvT
  go_enter Tryz.func45, Tryz.ntmps45
  go_wp2_with fail
  go_ret
  exact ⟨rfl, rfl⟩
theorem scText_ok (x : ByteArray) (w : World) (hx : x.size ≤ 9223372036854775000) : Calls Tryz.prog 47 #[.string x] w fun e w' => e = .returned (.string (scT x)) ∧ w' = w := by
  have hz : (⟨#[115, 99, 104, 101, 109, 97, 32]⟩ : ByteArray).size = 7 := rfl
  unfold scT
  go_enter Tryz.func47, Tryz.ntmps47
  go_wp2_with fail
  go_ret
  exact ⟨rfl, rfl⟩
set_option maxRecDepth 20000 in
theorem lvFits_ok (l : Lv) (w : World) : Calls Tryz.prog 87 #[.agg (lvA l)] w fun e w' => e = .returned (.bool (lvFit l)) ∧ Below w.heap.size w w' := by
  have B1 := alloc_below w (.cells (lvA l) 43)
  have N1 := Blk.new w 43 (lvA l)
  have c0 := N1.cellv (v := .string l.name) 0 rfl
  have c1 := N1.cellv (v := .int .i64 l.kind) 1 rfl
  have c2 := N1.cellv (v := .int .i64 l.shares) 2 rfl
  show Calls Tryz.prog 87 #[.agg #[.string l.name, .int .i64 l.kind, .int .i64 l.shares, .int .i64 l.lend, .int .i64 l.borrow, .int .i64 l.queues, .int .i64 l.hand, .int .i64 l.length, .int .i64 l.wait, .int .i64 l.guess]] w _
  unfold lvA at B1 c0 c1 c2
  have HE : Hd (lvFit l = if l.name = tExempt then l.kind == 1 else if l.name = tCatch then l.kind != 1 && l.shares != 0 else true) := ⟨rfl⟩
  generalize lvFit l = R at *
  clear N1
  go_enter Tryz.func87, Tryz.ntmps87
  go_upto_region 1 with fail
  generalize w.alloc _ = w1 at *
  by_cases h1 : l.name = tExempt
  · have q1 := lit_yes h1
    have HR : Hd (R = (l.kind == 1)) := ⟨by rw [HE.out, if_pos h1]⟩
    clear HE h1
    go_wp2_with fail
    go_ret
    exact ⟨by rw [HR.out]; rfl, B1⟩
  · have q1 := lit_no h1
    by_cases h2 : l.name = tCatch
    · have q2 := lit_yes h2
      have HR : Hd (R = (l.kind != 1 && l.shares != 0)) := ⟨by rw [HE.out, if_neg h1, if_pos h2]⟩
      clear HE h1 h2
      cases hk : (l.kind != 1) with
      | false =>
        have HS : Hd (R = false) := ⟨by rw [HR.out, hk]; rfl⟩
        clear HR
        go_wp2_with fail
        go_ret
        exact ⟨by rw [HS.out]; rfl, B1⟩
      | true =>
        have HS : Hd (R = (l.shares != 0)) := ⟨by rw [HR.out, hk]; rfl⟩
        clear HR
        go_wp2_with fail
        go_ret
        exact ⟨by rw [HS.out]; rfl, B1⟩
    · have q2 := lit_no h2
      have HR : Hd (R = true) := ⟨by rw [HE.out, if_neg h1, if_neg h2]⟩
      clear HE h1 h2
      go_wp2_with fail
      go_ret
      exact ⟨by rw [HR.out]; rfl, B1⟩
set_option maxRecDepth 20000 in
theorem lvErr_ok (l : Lv) (w : World) : Calls Tryz.prog 44 #[.agg (lvA l)] w fun e w' => e = .returned (.int .i64 (lvErr l)) ∧ Below w.heap.size w w' := by
  have B1 := alloc_below w (.cells (lvA l) 43)
  have N1 := Blk.new w 43 (lvA l)
  have c0 := N1.cellv (v := .string l.name) 0 rfl
  have c1 := N1.cellv (v := .int .i64 l.kind) 1 rfl
  have c2 := N1.cellv (v := .int .i64 l.shares) 2 rfl
  have c3 := N1.cellv (v := .int .i64 l.lend) 3 rfl
  have c4 := N1.cellv (v := .int .i64 l.borrow) 4 rfl
  have c5 := N1.cellv (v := .int .i64 l.queues) 5 rfl
  have c6 := N1.cellv (v := .int .i64 l.hand) 6 rfl
  have c7 := N1.cellv (v := .int .i64 l.length) 7 rfl
  have c8 := N1.cellv (v := .int .i64 l.wait) 8 rfl
  have c9 := N1.cellv (v := .int .i64 l.guess) 9 rfl
  have LF := fun W => lvFits_ok l W
  show Calls Tryz.prog 44 #[.agg #[.string l.name, .int .i64 l.kind, .int .i64 l.shares, .int .i64 l.lend, .int .i64 l.borrow, .int .i64 l.queues, .int .i64 l.hand, .int .i64 l.length, .int .i64 l.wait, .int .i64 l.guess]] w _
  unfold lvA at B1 c0 c1 c2 c3 c4 c5 c6 c7 c8 c9 LF
  have HE : Hd (lvErr l = if l.kind = 3 ∧ refH l.queues l.hand ≠ 0 then refH l.queues l.hand else if lvFit l then 0 else 11) := ⟨rfl⟩
  generalize lvErr l = R at *
  clear N1
  go_enter Tryz.func44, Tryz.ntmps44
  go_upto_region 1 with fail
  generalize w.alloc _ = w1 at *
  have FIN : Hd (¬ (l.kind = 3 ∧ refH l.queues l.hand ≠ 0) → R = if lvFit l then 0 else 11) := ⟨fun h => by rw [HE.out, if_neg h]⟩
  generalize lvFit l = ft at *
  by_cases hk : l.kind = 3
  · have kb : (l.kind == 3) = true := by simp [hk]
    cases hh : (refH l.queues l.hand == 0) with
    | false =>
      have HN := fun W => hands_no l.queues l.hand W hh
      have HR : Hd (R = refH l.queues l.hand) := ⟨by rw [HE.out, if_pos ⟨hk, by simpa using hh⟩]⟩
      have hne : (refH l.queues l.hand != 0) = true := by simpa using hh
      clear HE FIN hk
      generalize refH l.queues l.hand = z at *
      go_wp2_with (go_at_call 86; refine (HN _).mono ?_; rintro e w' ⟨rfl, hw⟩; obtain rfl := hw.symm)
      go_ret
      exact ⟨by rw [HR.out]; rfl, B1⟩
    | true =>
      have hz : refH l.queues l.hand = 0 := by simpa using hh
      obtain ⟨D, m, e1, e2, hg⟩ := hgood_of hz
      have HY := fun W => hands_yes D m W hg
      have HR : Hd (R = if ft then 0 else 11) := ⟨FIN.out (fun h => h.2 hz)⟩
      rw [e1] at c5 LF ⊢
      rw [e2] at c6 LF ⊢
      clear HE FIN hk hz hh hg e1 e2
      generalize hP D m = z at *
      cases ft with
      | false =>
        go_wp2_with (first | (go_at_call 86; refine (HY _).mono ?_; rintro e w' ⟨rfl, hw⟩; obtain rfl := hw.symm) | (go_at_call 87; refine (LF _).mono ?_; rintro e w' ⟨rfl, b2⟩))
        go_ret
        exact ⟨by rw [HR.out]; rfl, B1.trans (b2.mono B1.size)⟩
      | true =>
        go_wp2_with (first | (go_at_call 86; refine (HY _).mono ?_; rintro e w' ⟨rfl, hw⟩; obtain rfl := hw.symm) | (go_at_call 87; refine (LF _).mono ?_; rintro e w' ⟨rfl, b2⟩))
        go_ret
        exact ⟨by rw [HR.out]; rfl, B1.trans (b2.mono B1.size)⟩
  · have kb : (l.kind == 3) = false := by simpa using hk
    have HR : Hd (R = if ft then 0 else 11) := ⟨FIN.out (fun h => hk h.1)⟩
    clear HE FIN hk
    cases ft with
    | false =>
      go_wp2_with (go_at_call 87; refine (LF _).mono ?_; rintro e w' ⟨rfl, b2⟩)
      go_ret
      exact ⟨by rw [HR.out]; rfl, B1.trans (b2.mono B1.size)⟩
    | true =>
      go_wp2_with (go_at_call 87; refine (LF _).mono ?_; rintro e w' ⟨rfl, b2⟩)
      go_ret
      exact ⟨by rw [HR.out]; rfl, B1.trans (b2.mono B1.size)⟩
theorem rhasLv_ok (a : Option Addr) (c : Nat) (L : List Lv) (x : ByteArray) (w : World) (hr : LvR w a L) (hl : L.length ≤ 65536) :
    Calls Tryz.prog 88 #[.slice a L.length c, .string x] w fun e w' => e = .returned (.bool (anyL L x)) ∧ Below w.heap.size w w' := by
  have AL := alloc_below w (.cells #[.string x] 9)
  have P := phasLvR a c L w.heap.size x (w.alloc (.cells #[.string x] 9)) ((Blk.new w 9 #[.string x]).cellv 0 rfl) (hr.carry AL) hl
  have BB : Hd (Below w.heap.size w (w.alloc (.cells #[.string x] 9))) := ⟨AL⟩
  unfold anyL
  clear AL hr
  generalize (L.any fun l => decide (l.name = x)) = b at *
  generalize L.length = m at *
  go_enter Tryz.func88, Tryz.ntmps88
  go_wp2_with (go_at_call 126; refine P.mono ?_; rintro e w' ⟨rfl, hb⟩)
  go_ret
  exact ⟨rfl, BB.out.trans (hb.mono BB.out.size)⟩
theorem rhasSc_ok (a : Option Addr) (c : Nat) (L : List Sc) (V : List Value) (x : ByteArray) (w : World) (hr : ScR w a L V) (hV : V.length = L.length) (hl : L.length ≤ 65536) :
    Calls Tryz.prog 90 #[.slice a L.length c, .string x] w fun e w' => e = .returned (.bool (anyS L x)) ∧ Below w.heap.size w w' := by
  have AL := alloc_below w (.cells #[.string x] 9)
  have P := phasScR a c L V w.heap.size x (w.alloc (.cells #[.string x] 9)) ((Blk.new w 9 #[.string x]).cellv 0 rfl) (hr.carry AL) hV hl
  have BB : Hd (Below w.heap.size w (w.alloc (.cells #[.string x] 9))) := ⟨AL⟩
  unfold anyS
  clear AL hr hV
  generalize (L.any fun l => decide (l.name = x)) = b at *
  generalize L.length = m at *
  go_enter Tryz.func90, Tryz.ntmps90
  go_wp2_with (go_at_call 130; refine P.mono ?_; rintro e w' ⟨rfl, hb⟩)
  go_ret
  exact ⟨rfl, BB.out.trans (hb.mono BB.out.size)⟩

/-- Is a list the one text that means all? -/
theorem isAll_ok (v : Value) (L : List ByteArray) (w : World) (h : LsR w v L) : Calls Tryz.prog 167 #[v] w fun e w' => e = .returned (.bool (isStar L)) ∧ w' = w := by
  obtain ⟨a, c, rfl, hr, -, hl, -⟩ := h
  by_cases h1 : L.length = 1
  · obtain ⟨x, rfl⟩ : ∃ x, L = [x] := by
      match L, h1 with
      | [x], _ => exact ⟨x, rfl⟩
    have e : isStar [x] = decide (x = tStar) := by unfold isStar; simp
    rw [e]
    clear e h1
    obtain ⟨b, off, rfl, hb, hc⟩ := hr Nat.one_pos
    have c0 : w.cell? ⟨b, off, none⟩ = some (.string x) := hc 0 Nat.one_pos
    have e2 : (x.toList == [42]) = decide (x = tStar) := by
      have := name_eq x tStar
      rw [ByteArray.toList_eq tStar] at this
      exact this
    clear hr hc
    generalize decide (x = tStar) = d at *
    simp only [List.length_cons, List.length_nil]
    go_enter Tryz.func167, Tryz.ntmps167
    go_wp2_with fail
    go_ret
    exact ⟨rfl, rfl⟩
  · have e : isStar L = false := by unfold isStar; rw [decide_eq_false]; intro e; rw [e] at h1; exact h1 rfl
    rw [e]
    clear e hr
    generalize L.length = n at *
    have q : ((n : Int) == 1) = false := by simp; omega
    go_enter Tryz.func167, Tryz.ntmps167
    go_wp2_with fail
    go_ret
    exact ⟨rfl, rfl⟩

end Go.Proofs.YthkdbphgiobcdaaGreatDoor

namespace Go.Proofs.YthkdbphgiobcdaaGreatDoor
open Go.RowKit

set_option maxRecDepth 20000 in
theorem rlAll_ok (v0 v1 v2 v3 v4 : Value) (r : Rl) (w : World) (h : RuR w v0 v1 v2 v3 v4 r) :
    Calls Tryz.prog 166 #[.agg #[v0, v1, v2, v3, v4]] w fun e w' => e = .returned (.bool (rlAll r)) ∧ Below w.heap.size w w' := by
  have AL := alloc_below w (.cells #[v0, v1, v2, v3, v4] 54)
  have NB := Blk.new w 54 #[v0, v1, v2, v3, v4]
  obtain ⟨h0, h1, h2, h3, h4⟩ := h.carry AL
  have I0 := isAll_ok v0 r.users _ h0
  have I2 := isAll_ok v2 r.verbs _ h2
  have I3 := isAll_ok v3 r.resources _ h3
  have I4 := isAll_ok v4 r.spaces _ h4
  have c0 := NB.cellv (v := v0) 0 rfl
  have c2 := NB.cellv (v := v2) 2 rfl
  have c3 := NB.cellv (v := v3) 3 rfl
  have c4 := NB.cellv (v := v4) 4 rfl
  obtain ⟨a0, p0, rfl, -⟩ := h0
  obtain ⟨a1, p1, rfl, -⟩ := h1
  obtain ⟨a2, p2, rfl, -⟩ := h2
  obtain ⟨a3, p3, rfl, -⟩ := h3
  obtain ⟨a4, p4, rfl, -⟩ := h4
  have e : rlAll r = (isStar r.users && (isStar r.verbs && (isStar r.resources && isStar r.spaces))) := rfl
  rw [e]
  clear e h NB
  generalize isStar r.users = x0 at *
  generalize isStar r.verbs = x2 at *
  generalize isStar r.resources = x3 at *
  generalize isStar r.spaces = x4 at *
  generalize r.users.length = m0 at *
  generalize r.groups.length = m1 at *
  generalize r.verbs.length = m2 at *
  generalize r.resources.length = m3 at *
  generalize r.spaces.length = m4 at *
  go_enter Tryz.func166, Tryz.ntmps166
  go_upto_region 1 with fail
  generalize w.alloc _ = w1 at *
  cases x0 with
  | false =>
    go_wp2_with (go_at_call 167; refine I0.mono ?_; rintro e w' ⟨rfl, hw⟩; obtain rfl := hw.symm)
    go_ret
    exact ⟨rfl, AL⟩
  | true =>
    go_wp2_with fail
    go_at_call 167
    refine I0.mono ?_
    rintro e w' ⟨rfl, hw⟩
    obtain rfl := hw.symm
    cases x2 with
    | false =>
      go_wp2_with fail
      go_at_call 167
      refine I2.mono ?_
      rintro e w' ⟨rfl, hw⟩
      obtain rfl := hw.symm
      go_wp2_with fail
      go_ret
      exact ⟨rfl, AL⟩
    | true =>
      go_wp2_with fail
      go_at_call 167
      refine I2.mono ?_
      rintro e w' ⟨rfl, hw⟩
      obtain rfl := hw.symm
      cases x3 with
      | false =>
        go_wp2_with fail
        go_at_call 167
        refine I3.mono ?_
        rintro e w' ⟨rfl, hw⟩
        obtain rfl := hw.symm
        go_wp2_with fail
        go_ret
        exact ⟨rfl, AL⟩
      | true =>
        go_wp2_with fail
        go_at_call 167
        refine I3.mono ?_
        rintro e w' ⟨rfl, hw⟩
        obtain rfl := hw.symm
        go_wp2_with fail
        go_at_call 167
        refine I4.mono ?_
        rintro e w' ⟨rfl, hw⟩
        obtain rfl := hw.symm
        go_wp2_with fail
        go_ret
        exact ⟨rfl, AL⟩

set_option maxRecDepth 20000 in
theorem indexRl (rs : List Rl) (a : Option Addr) (c : Nat) (w : World) (h : RlR w (.slice a rs.length c) rs) :
    Calls Tryz.prog 182 #[.slice a rs.length c, .func (.func 166) #[] #[]] w fun e w' => (∃ q : Int, e = .returned (.int .i64 q) ∧ decide (0 ≤ q) = rs.any rlAll) ∧ Below w.heap.size w w' := by
  have eg : ∀ args w, (callFunc 166 args).run Tryz.prog w = .ok (.enter 166 args) w := enters_of Tryz.func166 (by kernel_rfl) rfl
  have HR : Hd (RlR w (.slice a rs.length c) rs) := ⟨h⟩
  obtain ⟨_, _, _, hl, -⟩ := h
  obtain ⟨n, hn⟩ : ∃ n, n = rs.length := ⟨_, rfl⟩
  have HN : Hd (n = rs.length) := ⟨hn⟩
  rw [← hn] at hl ⊢
  clear hn
  go_enter Tryz.func182, Tryz.ntmps182
  go_wp2_with fail
  go_loopw [8] (fun i wr => ∃ k : Nat, k ≤ n ∧ i = .int .i64 k ∧ Hd ((∀ j (h : j < rs.length), j < k → rlAll rs[j] = false) ∧ Below w.heap.size w wr)) (fun i _ => n - (intOf i).toNat)
  case atStart => exact ⟨0, Nat.zero_le _, rfl, ⟨fun _ _ h => absurd h (Nat.not_lt_zero _), Below.refl _ _⟩⟩
  case round =>
    obtain ⟨k, hk, rfl, hI⟩ := hrel
    by_cases hlt : k < n
    · have hkL : k < rs.length := by rw [← HN.out]; exact hlt
      obtain ⟨a', c', e', -, hrow⟩ := HR.out.carry hI.out.2
      injection e' with e1 e2 e3
      subst e1 e3
      obtain ⟨b, off, rfl, hb, hcs⟩ := hrow (by omega)
      obtain ⟨v0, v1, v2, v3, v4, ⟨x0, x1, x2, x3, x4⟩, hru⟩ := hcs k hkL
      have HYes : Hd (rlAll rs[k] = true → rs.any rlAll = true) := ⟨fun e => List.any_eq_true.2 ⟨rs[k], List.getElem_mem hkL, e⟩⟩
      have HStep : Hd (rlAll rs[k] = false → ∀ j (h : j < rs.length), j < k + 1 → rlAll rs[j] = false) := ⟨fun h1 j hj hjk => by
        rcases Nat.lt_or_eq_of_le (Nat.le_of_lt_succ hjk) with h' | h'
        · exact hI.out.1 j hj h'
        · subst h'; exact h1⟩
      have RW := rlAll_ok v0 v1 v2 v3 v4 rs[k] wr hru
      obtain ⟨⟨q0, p0, e0, -⟩, ⟨q1, p1, e1, -⟩, ⟨q2, p2, e2, -⟩, ⟨q3, p3, e3, -⟩, ⟨q4, p4, e4, -⟩⟩ := id hru
      have BB : Hd (Below w.heap.size w wr) := ⟨hI.out.2⟩
      have HK : Hd (k < n) := ⟨hlt⟩
      clear hcs hrow hru hI
      generalize rs[k] = r at *
      clear hkL
      generalize hn0 : r.users.length = m0 at e0
      generalize hn1 : r.groups.length = m1 at e1
      generalize hn2 : r.verbs.length = m2 at e2
      generalize hn3 : r.resources.length = m3 at e3
      generalize hn4 : r.spaces.length = m4 at e4
      subst e0 e1 e2 e3 e4
      clear hn0 hn1 hn2 hn3 hn4
      have i1 : (k : Int) < (n : Int) := by omega
      cases hok : rlAll r with
      | true =>
        rw [hok] at RW
        have A : Hd (rs.any rlAll = true) := ⟨HYes.out hok⟩
        clear hok HYes HStep
        go_wp2_with (go_at_fn 166; refine RW.mono ?_; rintro e w2 ⟨rfl, h2⟩)
        go_ret
        exact ⟨⟨k, rfl, by rw [A.out]; exact decide_eq_true (by omega)⟩, BB.out.trans (h2.mono BB.out.size)⟩
      | false =>
        rw [hok] at RW
        have F3 : Hd (∀ j (h : j < rs.length), j < k + 1 → rlAll rs[j] = false) := ⟨HStep.out hok⟩
        clear hok HYes HStep
        go_wp2_with (go_at_fn 166; refine RW.mono ?_; rintro e w2 ⟨rfl, h2⟩)
        go_roundw
        case rel =>
          first
            | exact ⟨k + 1, HK.out, by go_num, ⟨F3.out, BB.out.trans (h2.mono BB.out.size)⟩⟩
            | ((repeat apply Exists.intro); exact ⟨⟨k + 1, HK.out, by go_num, ⟨F3.out, BB.out.trans (h2.mono BB.out.size)⟩⟩, rfl⟩)
        case measure => have := HK.out; simp [intOf]; omega
    · obtain rfl : k = n := by omega
      have A : Hd (rs.any rlAll = false) := ⟨by
        rw [List.any_eq_false]
        intro l hl'
        obtain ⟨j, hj, rfl⟩ := List.getElem_of_mem hl'
        rw [hI.out.1 j hj (by rw [HN.out]; exact hj)]
        decide⟩
      go_wp2_with fail
      go_ret
      exact ⟨⟨-1, rfl, by rw [A.out]; decide⟩, hI.out.2⟩
theorem ruleOfAll_ok (v : Value) (rs : List Rl) (w : World) (h : RlR w v rs) : Calls Tryz.prog 138 #[v] w fun e w' => e = .returned (.bool (rs.any rlAll)) ∧ Below w.heap.size w w' := by
  obtain ⟨a, c, rfl, -⟩ := id h
  have I := indexRl rs a c w h
  clear h
  generalize rs.any rlAll = b at *
  generalize rs.length = n at *
  have J : Calls Tryz.prog 165 #[.slice a n c, .func (.func 166) #[] #[]] w fun e w' => e = .returned (.bool b) ∧ Below w.heap.size w w' := by
    go_enter Tryz.func165, Tryz.ntmps165
    go_wp2_with (go_at_call 182; refine I.mono ?_; rintro e w' ⟨⟨q, rfl, hq⟩, hb⟩)
    go_ret
    exact ⟨by rw [← hq]; rfl, hb⟩
  clear I
  go_enter Tryz.func138, Tryz.ntmps138
  go_wp2_with (go_at_call 165; refine J.mono ?_; rintro e w' ⟨rfl, hb⟩)
  go_ret
  exact ⟨rfl, hb⟩

set_option maxRecDepth 20000 in
theorem scFits_ok (s : Sc) (v : Value) (w : World) (h : RlR w v s.rules) :
    Calls Tryz.prog 89 #[.agg #[.string s.name, .string s.level, .int .i64 s.rank, .int .i64 s.way, v]] w fun e w' => e = .returned (.bool (scFit s)) ∧ Below w.heap.size w w' := by
  have AL := alloc_below w (.cells #[.string s.name, .string s.level, .int .i64 s.rank, .int .i64 s.way, v] 47)
  have NB := Blk.new w 47 #[.string s.name, .string s.level, .int .i64 s.rank, .int .i64 s.way, v]
  have RU := ruleOfAll_ok v s.rules _ (h.carry AL)
  obtain ⟨a, c, rfl, -⟩ := h
  have c0 := NB.cellv (v := .string s.name) 0 rfl
  have c1 := NB.cellv (v := .string s.level) 1 rfl
  have c2 := NB.cellv (v := .int .i64 s.rank) 2 rfl
  have c4 := NB.cellv (v := .slice a s.rules.length c) 4 rfl
  have HE : Hd (scFit s = if s.name = tExempt then decide (s.level = tExempt) && s.rank == 1 else if s.name = tCatch then decide (s.level = tCatch) && (s.rank == 10000 && s.rules.any rlAll) else true) := ⟨rfl⟩
  generalize scFit s = R at *
  clear NB
  generalize s.rules.any rlAll = x at *
  generalize s.rules.length = n at *
  go_enter Tryz.func89, Tryz.ntmps89
  go_upto_region 1 with fail
  generalize w.alloc _ = w1 at *
  by_cases h1 : s.name = tExempt
  · have q1 := lit_yes h1
    have HR : Hd (R = (decide (s.level = tExempt) && s.rank == 1)) := ⟨by rw [HE.out, if_pos h1]⟩
    clear HE h1 RU
    by_cases h3 : s.level = tExempt
    · have q3 := lit_yes h3
      have HS : Hd (R = (s.rank == 1)) := ⟨by rw [HR.out, decide_eq_true h3]; rfl⟩
      clear HR h3
      go_wp2_with fail
      go_ret
      exact ⟨by rw [HS.out]; rfl, AL⟩
    · have q3 := lit_no h3
      have HS : Hd (R = false) := ⟨by rw [HR.out, decide_eq_false h3]; rfl⟩
      clear HR h3
      go_wp2_with fail
      go_ret
      exact ⟨by rw [HS.out]; rfl, AL⟩
  · have q1 := lit_no h1
    by_cases h2 : s.name = tCatch
    · have q2 := lit_yes h2
      have HR : Hd (R = (decide (s.level = tCatch) && (s.rank == 10000 && x))) := ⟨by rw [HE.out, if_neg h1, if_pos h2]⟩
      clear HE h1 h2
      by_cases h3 : s.level = tCatch
      · have q3 := lit_yes h3
        cases h4 : (s.rank == 10000) with
        | true =>
          have HS : Hd (R = x) := ⟨by rw [HR.out, decide_eq_true h3, h4]; rfl⟩
          clear HR h3
          go_wp2_with (go_at_call 138; refine RU.mono ?_; rintro e w' ⟨rfl, b2⟩)
          go_ret
          exact ⟨by rw [HS.out]; rfl, AL.trans (b2.mono AL.size)⟩
        | false =>
          have HS : Hd (R = false) := ⟨by rw [HR.out, decide_eq_true h3, h4]; rfl⟩
          clear HR h3 RU
          go_wp2_with fail
          go_ret
          exact ⟨by rw [HS.out]; rfl, AL⟩
      · have q3 := lit_no h3
        have HS : Hd (R = false) := ⟨by rw [HR.out, decide_eq_false h3]; rfl⟩
        clear HR h3 RU
        go_wp2_with fail
        go_ret
        exact ⟨by rw [HS.out]; rfl, AL⟩
    · have q2 := lit_no h2
      have HR : Hd (R = true) := ⟨by rw [HE.out, if_neg h1, if_neg h2]⟩
      clear HE h1 h2 RU
      go_wp2_with fail
      go_ret
      exact ⟨by rw [HR.out]; rfl, AL⟩

set_option maxRecDepth 20000 in
theorem scErr_ok (s : Sc) (v : Value) (aL : Option Addr) (cL : Nat) (L : List Lv) (w : World) (h : RlR w v s.rules) (hL : LvR w aL L) (hl : L.length ≤ 65536) :
    Calls Tryz.prog 46 #[.agg #[.string s.name, .string s.level, .int .i64 s.rank, .int .i64 s.way, v], .slice aL L.length cL] w fun e w' => e = .returned (.int .i64 (scErr L s)) ∧ Below w.heap.size w w' := by
  have AL := alloc_below w (.cells #[.string s.name, .string s.level, .int .i64 s.rank, .int .i64 s.way, v] 47)
  have NB := Blk.new w 47 #[.string s.name, .string s.level, .int .i64 s.rank, .int .i64 s.way, v]
  have HL := rhasLv_ok aL cL L s.level _ (hL.carry AL) hl
  have SF : Hd (∀ W, Below w.heap.size w W → Calls Tryz.prog 89 #[.agg #[.string s.name, .string s.level, .int .i64 s.rank, .int .i64 s.way, v]] W fun e w' => e = .returned (.bool (scFit s)) ∧ Below W.heap.size W w') := ⟨fun W b => scFits_ok s v W (h.carry b)⟩
  obtain ⟨a, c, rfl, -⟩ := h
  have HE : Hd (scErr L s = if anyL L s.level then (if scFit s then 0 else 11) else 6) := ⟨rfl⟩
  generalize scErr L s = R at *
  clear hL hl
  generalize anyL L s.level = x at *
  generalize scFit s = y at *
  generalize s.rules.length = n at *
  generalize L.length = m at *
  have c1 := NB.cellv (v := .string s.level) 1 rfl
  go_enter Tryz.func46, Tryz.ntmps46
  go_upto_region 1 with fail
  generalize w.alloc _ = w1 at *
  go_wp2_with fail
  go_at_call 88
  refine HL.mono ?_
  rintro e w2 ⟨rfl, b2⟩
  have B2 : Below w.heap.size w w2 := AL.trans (b2.mono AL.size)
  have N2 := NB.kept (Kept.of_below b2 (fun _ => False)) id
  have F2 := SF.out w2 B2
  have d0 := N2.cellv (v := .string s.name) 0 rfl
  have d1 := N2.cellv (v := .string s.level) 1 rfl
  have d2 := N2.cellv (v := .int .i64 s.rank) 2 rfl
  have d3 := N2.cellv (v := .int .i64 s.way) 3 rfl
  have d4 := N2.cellv (v := .slice a n c) 4 rfl
  clear HL AL NB c1 b2 N2 SF
  cases x with
  | false =>
    go_wp2_with fail
    go_ret
    exact ⟨by rw [HE.out]; rfl, B2⟩
  | true =>
    cases y with
    | false =>
      go_wp2_with (go_at_call 89; refine F2.mono ?_; rintro e w' ⟨rfl, b3⟩)
      go_ret
      exact ⟨by rw [HE.out]; rfl, B2.trans (b3.mono B2.size)⟩
    | true =>
      go_wp2_with (go_at_call 89; refine F2.mono ?_; rintro e w' ⟨rfl, b3⟩)
      go_ret
      exact ⟨by rw [HE.out]; rfl, B2.trans (b3.mono B2.size)⟩

end Go.Proofs.YthkdbphgiobcdaaGreatDoor
