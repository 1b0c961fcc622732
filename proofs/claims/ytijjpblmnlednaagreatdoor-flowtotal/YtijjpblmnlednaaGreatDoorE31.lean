/-
  What the functions of 'rules' that look at one level, one rule, one schema answer.
-/
import Derived.Test.YtijjpblmnlednaaGreatDoorE29
import Derived.Test.YtijjpblmnlednaaGreatDoorE30
import Derived.Test.YtijjpblmnlednaaGreatDoorE17
namespace Go.Proofs.YtijjpblmnlednaaGreatDoor
open Go.RowKit
theorem lit_yes {x : ByteArray} {a : Array UInt8} (h : x = ⟨a⟩) : (x.toList == a.toList) = true := by subst h; rw [ByteArray.toList_eq]; simp
theorem lit_no {x : ByteArray} {a : Array UInt8} (h : x ≠ ⟨a⟩) : (x.toList == a.toList) = false := by
  have := str_ne h
  rw [ByteArray.toList_eq (⟨a⟩ : ByteArray)] at this
  exact this
theorem lvText_ok (x : ByteArray) (w : World) (hx : x.size ≤ 9223372036854775000) : Calls Tryz.prog 31 #[.string x] w fun e w' => e = .returned (.string (lvT x)) ∧ w' = w := by
  have hz : (⟨#[108, 101, 118, 101, 108, 32]⟩ : ByteArray).size = 6 := rfl
  unfold lvT
  go_enter Tryz.func31, Tryz.ntmps31
  go_wp2_with fail
  go_ret
  exact ⟨rfl, rfl⟩
theorem scText_ok (x : ByteArray) (w : World) (hx : x.size ≤ 9223372036854775000) : Calls Tryz.prog 33 #[.string x] w fun e w' => e = .returned (.string (scT x)) ∧ w' = w := by
  have hz : (⟨#[115, 99, 104, 101, 109, 97, 32]⟩ : ByteArray).size = 7 := rfl
  unfold scT
  go_enter Tryz.func33, Tryz.ntmps33
  go_wp2_with fail
  go_ret
  exact ⟨rfl, rfl⟩
set_option maxRecDepth 20000 in
theorem lvFits_ok (l : Lv) (w : World) : Calls Tryz.prog 64 #[.agg (lvA l)] w fun e w' => e = .returned (.bool (lvFit l)) ∧ Below w.heap.size w w' := by
  have B1 := alloc_below w (.cells (lvA l) 45)
  have N1 := Blk.new w 45 (lvA l)
  have c0 := N1.cellv (v := .string l.name) 0 rfl
  have c1 := N1.cellv (v := .int .i64 l.kind) 1 rfl
  have c2 := N1.cellv (v := .int .i64 l.shares) 2 rfl
  show Calls Tryz.prog 64 #[.agg #[.string l.name, .int .i64 l.kind, .int .i64 l.shares, .int .i64 l.lend, .int .i64 l.borrow, .int .i64 l.queues, .int .i64 l.hand, .int .i64 l.length, .int .i64 l.wait, .int .i64 l.guess]] w _
  unfold lvA at B1 c0 c1 c2
  have HE : Hd (lvFit l = if l.name = tExempt then l.kind == 1 else if l.name = tCatch then l.kind != 1 && l.shares != 0 else true) := ⟨rfl⟩
  generalize lvFit l = R at *
  clear N1
  go_enter Tryz.func64, Tryz.ntmps64
  go_upto_region 1 with fail
  generalize w.alloc _ = w1 at *
  by_cases h1 : l.name = tExempt
  · have q1 := lit_yes h1
    have HR : Hd (R = (l.kind == 1)) := ⟨by rw [HE.out, if_pos h1]⟩
    clear HE h1
    go_wp2_with fail
    go_ret
    exact ⟨by rw [HR.out]; rfl, B1⟩
  · have q1 := lit_no h1
    by_cases h2 : l.name = tCatch
    · have q2 := lit_yes h2
      have HR : Hd (R = (l.kind != 1 && l.shares != 0)) := ⟨by rw [HE.out, if_neg h1, if_pos h2]⟩
      clear HE h1 h2
      cases hk : (l.kind != 1) with
      | false =>
        have HS : Hd (R = false) := ⟨by rw [HR.out, hk]; rfl⟩
        clear HR
        go_wp2_with fail
        go_ret
        exact ⟨by rw [HS.out]; rfl, B1⟩
      | true =>
        have HS : Hd (R = (l.shares != 0)) := ⟨by rw [HR.out, hk]; rfl⟩
        clear HR
        go_wp2_with fail
        go_ret
        exact ⟨by rw [HS.out]; rfl, B1⟩
    · have q2 := lit_no h2
      have HR : Hd (R = true) := ⟨by rw [HE.out, if_neg h1, if_neg h2]⟩
      clear HE h1 h2
      go_wp2_with fail
      go_ret
      exact ⟨by rw [HR.out]; rfl, B1⟩
set_option maxRecDepth 20000 in
theorem lvErr_ok (l : Lv) (w : World) : Calls Tryz.prog 30 #[.agg (lvA l)] w fun e w' => e = .returned (.int .i64 (lvErr l)) ∧ Below w.heap.size w w' := by
  have B1 := alloc_below w (.cells (lvA l) 45)
  have N1 := Blk.new w 45 (lvA l)
  have c0 := N1.cellv (v := .string l.name) 0 rfl
  have c1 := N1.cellv (v := .int .i64 l.kind) 1 rfl
  have c2 := N1.cellv (v := .int .i64 l.shares) 2 rfl
  have c3 := N1.cellv (v := .int .i64 l.lend) 3 rfl
  have c4 := N1.cellv (v := .int .i64 l.borrow) 4 rfl
  have c5 := N1.cellv (v := .int .i64 l.queues) 5 rfl
  have c6 := N1.cellv (v := .int .i64 l.hand) 6 rfl
  have c7 := N1.cellv (v := .int .i64 l.length) 7 rfl
  have c8 := N1.cellv (v := .int .i64 l.wait) 8 rfl
  have c9 := N1.cellv (v := .int .i64 l.guess) 9 rfl
  have LF := fun W => lvFits_ok l W
  show Calls Tryz.prog 30 #[.agg #[.string l.name, .int .i64 l.kind, .int .i64 l.shares, .int .i64 l.lend, .int .i64 l.borrow, .int .i64 l.queues, .int .i64 l.hand, .int .i64 l.length, .int .i64 l.wait, .int .i64 l.guess]] w _
  unfold lvA at B1 c0 c1 c2 c3 c4 c5 c6 c7 c8 c9 LF
  have HE : Hd (lvErr l = if l.kind = 3 ∧ refH l.queues l.hand ≠ 0 then refH l.queues l.hand else if lvFit l then 0 else 11) := ⟨rfl⟩
  generalize lvErr l = R at *
  clear N1
  go_enter Tryz.func30, Tryz.ntmps30
  go_upto_region 1 with fail
  generalize w.alloc _ = w1 at *
  have FIN : Hd (¬ (l.kind = 3 ∧ refH l.queues l.hand ≠ 0) → R = if lvFit l then 0 else 11) := ⟨fun h => by rw [HE.out, if_neg h]⟩
  generalize lvFit l = ft at *
  by_cases hk : l.kind = 3
  · have kb : (l.kind == 3) = true := by simp [hk]
    cases hh : (refH l.queues l.hand == 0) with
    | false =>
      have HN := fun W => hands_no l.queues l.hand W hh
      have HR : Hd (R = refH l.queues l.hand) := ⟨by rw [HE.out, if_pos ⟨hk, by simpa using hh⟩]⟩
      have hne : (refH l.queues l.hand != 0) = true := by simpa using hh
      clear HE FIN hk
      generalize refH l.queues l.hand = z at *
      go_wp2_with (go_at_call 63; refine (HN _).mono ?_; rintro e w' ⟨rfl, hw⟩; obtain rfl := hw.symm)
      go_ret
      exact ⟨by rw [HR.out]; rfl, B1⟩
    | true =>
      have hz : refH l.queues l.hand = 0 := by simpa using hh
      obtain ⟨D, m, e1, e2, hg⟩ := hgood_of hz
      have HY := fun W => hands_yes D m W hg
      have HR : Hd (R = if ft then 0 else 11) := ⟨FIN.out (fun h => h.2 hz)⟩
      rw [e1] at c5 LF ⊢
      rw [e2] at c6 LF ⊢
      clear HE FIN hk hz hh hg e1 e2
      generalize hP D m = z at *
      cases ft with
      | false =>
        go_wp2_with (first | (go_at_call 63; refine (HY _).mono ?_; rintro e w' ⟨rfl, hw⟩; obtain rfl := hw.symm) | (go_at_call 64; refine (LF _).mono ?_; rintro e w' ⟨rfl, b2⟩))
        go_ret
        exact ⟨by rw [HR.out]; rfl, B1.trans (b2.mono B1.size)⟩
      | true =>
        go_wp2_with (first | (go_at_call 63; refine (HY _).mono ?_; rintro e w' ⟨rfl, hw⟩; obtain rfl := hw.symm) | (go_at_call 64; refine (LF _).mono ?_; rintro e w' ⟨rfl, b2⟩))
        go_ret
        exact ⟨by rw [HR.out]; rfl, B1.trans (b2.mono B1.size)⟩
  · have kb : (l.kind == 3) = false := by simpa using hk
    have HR : Hd (R = if ft then 0 else 11) := ⟨FIN.out (fun h => hk h.1)⟩
    clear HE FIN hk
    cases ft with
    | false =>
      go_wp2_with (go_at_call 64; refine (LF _).mono ?_; rintro e w' ⟨rfl, b2⟩)
      go_ret
      exact ⟨by rw [HR.out]; rfl, B1.trans (b2.mono B1.size)⟩
    | true =>
      go_wp2_with (go_at_call 64; refine (LF _).mono ?_; rintro e w' ⟨rfl, b2⟩)
      go_ret
      exact ⟨by rw [HR.out]; rfl, B1.trans (b2.mono B1.size)⟩
theorem rhasLv_ok (a : Option Addr) (c : Nat) (L : List Lv) (x : ByteArray) (w : World) (hr : LvR w a L) (hl : L.length ≤ 65536) :
    Calls Tryz.prog 65 #[.slice a L.length c, .string x] w fun e w' => e = .returned (.bool (anyL L x)) ∧ Below w.heap.size w w' := by
  have AL := alloc_below w (.cells #[.string x] 9)
  have P := phasLvR a c L w.heap.size x (w.alloc (.cells #[.string x] 9)) ((Blk.new w 9 #[.string x]).cellv 0 rfl) (hr.carry AL) hl
  have BB : Hd (Below w.heap.size w (w.alloc (.cells #[.string x] 9))) := ⟨AL⟩
  unfold anyL
  clear AL hr
  generalize (L.any fun l => decide (l.name = x)) = b at *
  generalize L.length = m at *
  go_enter Tryz.func65, Tryz.ntmps65
  go_wp2_with (go_at_call 99; refine P.mono ?_; rintro e w' ⟨rfl, hb⟩)
  go_ret
  exact ⟨rfl, BB.out.trans (hb.mono BB.out.size)⟩
theorem rhasSc_ok (a : Option Addr) (c : Nat) (L : List Sc) (V : List Value) (x : ByteArray) (w : World) (hr : ScR w a L V) (hV : V.length = L.length) (hl : L.length ≤ 65536) :
    Calls Tryz.prog 67 #[.slice a L.length c, .string x] w fun e w' => e = .returned (.bool (anyS L x)) ∧ Below w.heap.size w w' := by
  have AL := alloc_below w (.cells #[.string x] 9)
  have P := phasScR a c L V w.heap.size x (w.alloc (.cells #[.string x] 9)) ((Blk.new w 9 #[.string x]).cellv 0 rfl) (hr.carry AL) hV hl
  have BB : Hd (Below w.heap.size w (w.alloc (.cells #[.string x] 9))) := ⟨AL⟩
  unfold anyS
  clear AL hr hV
  generalize (L.any fun l => decide (l.name = x)) = b at *
  generalize L.length = m at *
  go_enter Tryz.func67, Tryz.ntmps67
  go_wp2_with (go_at_call 103; refine P.mono ?_; rintro e w' ⟨rfl, hb⟩)
  go_ret
  exact ⟨rfl, BB.out.trans (hb.mono BB.out.size)⟩

/-- Is a list the one text that means all? -/
theorem isAll_ok (v : Value) (L : List ByteArray) (w : World) (h : LsR w v L) : Calls Tryz.prog 134 #[v] w fun e w' => e = .returned (.bool (isStar L)) ∧ w' = w := by
  obtain ⟨a, c, rfl, hr, -, hl, -⟩ := h
  by_cases h1 : L.length = 1
  · obtain ⟨x, rfl⟩ : ∃ x, L = [x] := by
      match L, h1 with
      | [x], _ => exact ⟨x, rfl⟩
    have e : isStar [x] = decide (x = tStar) := by unfold isStar; simp
    rw [e]
    clear e h1
    obtain ⟨b, off, rfl, hb, hc⟩ := hr Nat.one_pos
    have c0 : w.cell? ⟨b, off, none⟩ = some (.string x) := hc 0 Nat.one_pos
    have e2 : (x.toList == [42]) = decide (x = tStar) := by
      have := name_eq x tStar
      rw [ByteArray.toList_eq tStar] at this
      exact this
    clear hr hc
    generalize decide (x = tStar) = d at *
    simp only [List.length_cons, List.length_nil]
    go_enter Tryz.func134, Tryz.ntmps134
    go_wp2_with fail
    go_ret
    exact ⟨rfl, rfl⟩
  · have e : isStar L = false := by unfold isStar; rw [decide_eq_false]; intro e; rw [e] at h1; exact h1 rfl
    rw [e]
    clear e hr
    generalize L.length = n at *
    have q : ((n : Int) == 1) = false := by simp; omega
    go_enter Tryz.func134, Tryz.ntmps134
    go_wp2_with fail
    go_ret
    exact ⟨rfl, rfl⟩
end Go.Proofs.YtijjpblmnlednaaGreatDoor
